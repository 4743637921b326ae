"""Lots: people who stand by themselves, as they are told only people of their own lot."""

from standby.calls import people
from standby.rows import must_have
from standby.words import must_be_of_one


def told_by(word):
    """Tell, for each call, a dict of whom people are told."""
    must_be_of_one(word)
    return [dict(call) for call in word]


def people_of(word):
    """Tell all people of the word, of one without a call none."""
    return people(word[0]) if len(word) > 0 else ()


def is_lot(word, thing):
    """Tell whether thing is a lot of the word."""
    tellings = told_by(word)
    if not isinstance(thing, tuple) or len(thing) == 0:
        return False
    # People are looked for first: only names can safely be members of a set.
    names = people_of(word)
    if not all([name in names for name in thing]) or list(thing) != sorted(set(thing)):
        return False
    return all([told[name] in thing for told in tellings for name in thing])


def least_lot(word, name):
    """Tell the least lot of the word that has somebody."""
    tellings = told_by(word)
    must_have(people_of(word), name)
    lot = [name]
    at = 0
    while at < len(lot):
        told = sorted({telling[lot[at]] for telling in tellings})
        lot = lot + [more for more in told if more not in lot]
        at += 1
    return tuple(sorted(lot))


def part_of(word, lot):
    """Tell the WORD of the lot's people alone."""
    must_be_of_one(word)
    return [tuple([(who, name) for who, name in call if who in lot]) for call in word]


def row_of(row, lot):
    """Tell the ROW of the lot's people alone."""
    return tuple([name for name in row if name in lot])
