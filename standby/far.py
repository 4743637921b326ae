"""Far rows: what a word does that is done again and again."""

from standby.tables import Table
from standby.walkers import twos
from standby.words import called_all


def far(row, word, many):
    """Tell the ROW behind the word many times."""
    return Table(row, word).times(many).leads(row)


def comes_round(row, word):
    """Tell behind how many times the ROW comes again for ever, and how many times more that takes."""
    table = Table(row, word)
    begin, later = 0, 1
    # The row comes round where all two people do: when the last two begin to, and when all their rounds meet.
    for pair in twos(row):
        signs, at = signs_of(row, table, pair)
        own_begin, own_later = signs_round(signs, at)
        begin = max(begin, own_begin)
        later = later // common(later, own_later) * own_later
    return (begin, later)


def changes(row, word, one, other, many):
    """Tell at how many of many times of the word one and other change who of both is ahead."""
    table = Table(row, word)
    # One and the same is never ahead, so that nothing changes.
    if one == other:
        return 0
    signs, begin = signs_of(row, table, (one, other))
    after = signs[1:] + signs[begin]
    turns = [0 if signs[at] == after[at] else 1 for at in range(len(signs))]
    if many <= begin:
        return sum(turns[:many])
    whole, rest = divmod(many - begin, len(turns) - begin)
    return sum(turns[:begin]) + whole * sum(turns[begin:]) + sum(turns[begin:begin + rest])


def rests(row, word):
    """Tell whether the ROW behind the word is this one."""
    return called_all(row, word) == tuple(row)


def signs_of(row, table, pair):
    """Tell, as a text, whether the pair's first one is ahead (+) or not (-) behind none, one, .. times, until it hangs
    on a pair on which it hung already, and behind how many times it first did."""
    places = {name: place for place, name in enumerate(row)}
    met = {}
    while pair not in met:
        met[pair] = len(met)
        pair = table.tells(pair[0], pair[1])
    return "".join(["+" if places[one] < places[other] else "-" for one, other in met]), met[pair]


def signs_round(signs, begin):
    """Tell where signs that go on from begin for ever begin to come round, and how soon they do."""
    ring = signs[begin:]
    # Pairs may go a longer round than their signs: the least turn of the ring that leaves it the same is theirs.
    later = (ring + ring).find(ring, 1)
    while begin > 0 and signs[begin - 1] == signs[begin - 1 + later]:
        begin -= 1
    return (begin, later)


def common(one, other):
    """Tell the greatest number that divides both."""
    while other > 0:
        one, other = other, one % other
    return one
