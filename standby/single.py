"""Single calls, done for ever: who is told round, and which rows come again."""

from standby.calls import groups
from standby.counting import orders_many


def walked_to(call):
    """Tell those who are on rounds, rising, and behind how many times nobody else is walked to."""
    told = dict(call)
    left = sorted(told)
    many = 0
    while True:
        reached = sorted({told[name] for name in left})
        # Where no fewer are reached, each of those left is reached by just one of them: all are on rounds.
        if len(reached) == len(left):
            return left, many
        left = reached
        many += 1


def rounds(call):
    """Tell all who are told round, each round from its least name on."""
    told = dict(call)
    found = []
    for name in walked_to(call)[0]:
        if any([name in ring for ring in found]):
            continue
        ring = [name]
        while told[ring[-1]] != name:
            ring.append(told[ring[-1]])
        found.append(tuple(ring))
    return found


def depth(call):
    """Tell the least number of times behind which everybody who is walked to is on a round."""
    return walked_to(call)[1]


def again_many(call):
    """Tell how many ROWs come again, the call being done for ever."""
    total = orders_many(len(walked_to(call)[0]))
    for name, comers in groups(call):
        total *= orders_many(len(comers))
    return total


def rests_all(call):
    """Tell whether every ROW that comes again is the same one behind the call."""
    # Those on one round change places in some order, those alone on theirs never do, and all others follow them.
    return all([len(ring) == 1 for ring in rounds(call)])


def passes(call):
    """Tell all pairs of whom the first can come from behind the second to stand ahead."""
    return [(one, other) for one, to in call for other, beside in call if can_pass((one, other), (to, beside))]


def can_pass(pair, told):
    """Tell whether one can pass other, told the pair of whom they are told."""
    # Those told one and the same keep their order, those both told their own their places; else some row has
    # other ahead of one and yet whom one is told ahead of whom other is told.
    return told[0] != told[1] and told != pair
