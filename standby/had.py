"""What can have been ahead of a row, and the rows to which a word can lead."""

from standby.errors import Never
from standby.keeping import ring_among, row_keeping
from standby.rows import is_name
from standby.tables import Table
from standby.walkers import twos


def web(names, word):
    """Tell the pairs of the first row on which all hangs, each with its lesser name first."""
    table = Table(names, word)
    told = [table.tells(one, other) for one, other in twos(table.names())]
    return sorted({tuple(sorted(pair)) for pair in told})


def wants(row, word):
    """Tell who must have stood ahead of whom in a row that the word leads to this one."""
    table = Table(row, word)
    return sorted({table.tells(one, other) for one, other in twos(row)})


def had(row, word):
    """Tell a ROW that the word leads to this one."""
    wanted = wants(row, word)
    first, left = row_keeping(row, wanted)
    if len(left) > 0:
        raise Never(ring_among(left, wanted))
    return tuple(first)


def can_be(row, word):
    """Tell whether the word leads some ROW to this one."""
    left = row_keeping(row, wants(row, word))[1]
    return len(left) == 0


def shows_never(row, word, thing):
    """Tell whether thing is a ring of wants, which shows that the word leads no ROW to this one."""
    wanted = {want: True for want in wants(row, word)}
    if not isinstance(thing, list) or len(thing) < 2:
        return False
    # Names are looked at first: only they can safely be members of a set.
    if not all([is_name(name) for name in thing]) or len(set(thing)) != len(thing):
        return False
    return all([(thing[at - 1], thing[at]) in wanted for at in range(len(thing))])


def ends_many(names, word):
    """Tell how many ROWs the word can lead to."""
    # Each end is one way to turn the pairs of the web without a ring. Of a lot of people some stand ahead of all
    # whom they have a pair with: each choice of such is counted, and what is so counted twice is taken off again.
    signs = choice_signs(sorted(names), web(names, word))
    many = [1]
    for lot in range(1, len(signs)):
        total = 0
        choice = lot
        while choice > 0:
            total += signs[choice] * many[lot ^ choice]
            choice = (choice - 1) & lot
        many.append(total)
    return many[-1]


def choice_signs(names, pairs):
    """Tell by each choice of people, a number with a bit for each, 0 where two of them are a pair, else 1 or -1 as
    they are odd or even many."""
    signs = [-1]
    for at, name in enumerate(names):
        beside = sum([1 << place for place, other in enumerate(names[:at]) if (other, name) in pairs])
        signs = signs + [0 if choice & beside else -signs[choice] for choice in range(1 << at)]
    return signs
