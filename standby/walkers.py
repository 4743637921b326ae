"""Two walkers, who go a word from its last call back and so tell who of two is ahead."""

from standby.words import must_be_of, must_be_of_one


def twos(names):
    """Tell all two of these people as pairs, the one who comes earlier first."""
    return [(one, other) for at, one in enumerate(names) for other in names[at + 1:]]


def step(told, pair):
    """Tell the pair that two walkers come to, told a dict of who is told whom."""
    one, other = told[pair[0]], told[pair[1]]
    # Those who come to one place keep their order, so that of the two themselves tells.
    if one == other:
        return pair
    return (one, other)


def walks(word, one, other):
    """Tell the pairs that two walkers come to, at first and at each call, the last call first."""
    must_be_of_one(word)
    pairs = [(one, other)]
    for call in reversed(word):
        pairs.append(step(dict(call), pairs[-1]))
    return pairs


def pair_of(word, one, other):
    """Tell the pair of the first row on which it hangs who of two is ahead behind the word."""
    return walks(word, one, other)[-1]


def shows_ahead(row, word, one, other, thing):
    """Tell whether thing is the list of pairs that shows that one is ahead of other behind the word."""
    must_be_of(row, word)
    pairs = walks(word, one, other)
    # Without a call any two may be walkers, also such as do not stand in the row.
    return thing == pairs and pairs[-1] in twos(row)
