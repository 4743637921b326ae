"""Rows: tuples of unlike people, from the first place on."""

from standby.errors import Alike, NoName, Unlike

LETTERS = "abcdefghijklmnopqrstuvwxyz"
LONGEST = 6


def is_name(thing):
    """Tell whether thing is a NAME."""
    if not isinstance(thing, str) or not 1 <= len(thing) <= LONGEST:
        return False
    return all([letter in LETTERS for letter in thing])


def must_have(names, name):
    """Refuse a name that is none of these names."""
    if name not in names:
        raise NoName(name)


def must_be_two(names, one, other):
    """Refuse one, then other, that is none of these names, then one and the same."""
    must_have(names, one)
    must_have(names, other)
    if one == other:
        raise Alike(one)


def must_be_same(one, other):
    """Refuse two lists that are not of the same people, in whatever order."""
    if sorted(one) != sorted(other):
        raise Unlike()


def is_row(thing):
    """Tell whether thing is a ROW."""
    if not isinstance(thing, tuple) or len(thing) == 0:
        return False
    # Names are looked at first: only they can safely be members of a set.
    return all([is_name(name) for name in thing]) and len(set(thing)) == len(thing)


def place_of(row, name):
    """Tell the place of somebody, the first one being 0."""
    must_have(row, name)
    return row.index(name)


def is_ahead(row, one, other):
    """Tell whether one stands nearer to the first place than other."""
    # One is looked up first, as of two names that are not there that one is refused.
    place = place_of(row, one)
    return place < place_of(row, other)


def turned(row):
    """Tell the ROW with the last one first."""
    return tuple(row[::-1])


def fallers(one, other):
    """Tell those who stand the other way about in one than with the one right behind them in other."""
    must_be_same(one, other)
    places = {name: place for place, name in enumerate(one)}
    return [name for name, behind in zip(other, other[1:]) if places[behind] < places[name]]


def falls(one, other):
    """Tell how many neighbours of other stand the other way about in one."""
    return len(fallers(one, other))
