"""Whether two words do the same, and what parts them where they do not."""

from standby.keeping import row_keeping
from standby.rows import is_ahead, is_row
from standby.tables import Table
from standby.walkers import twos
from standby.words import called_all, must_be_of


def alike(names, one, other):
    """Tell whether two WORDs do the same to every ROW."""
    return Table(names, one) == Table(names, other)


def parting(names, one, other):
    """Tell a ROW and two people who stand otherwise behind the one WORD than behind the other, or None."""
    mine, theirs = Table(names, one), Table(names, other)
    for first, second in twos(mine.names()):
        pair, against = mine.tells(first, second), theirs.tells(first, second)
        if pair != against:
            # Unlike pairs, one of them turned about, make no ring: a row keeps both.
            row = row_keeping(names, [pair, against[::-1]])[0]
            return (tuple(row), first, second)
    return None


def shows_parting(names, one, other, thing):
    """Tell whether thing is a ROW and two people that part two WORDs."""
    must_be_of(names, one)
    must_be_of(names, other)
    if not isinstance(thing, tuple) or len(thing) != 3:
        return False
    row, first, second = thing
    if not is_row(row) or sorted(row) != sorted(names):
        return False
    if first not in row or second not in row:
        return False
    return is_ahead(called_all(row, one), first, second) and not is_ahead(called_all(row, other), first, second)
