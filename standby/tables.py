"""Tables: of all two people the pair on which it hangs who of them is ahead behind a word."""

from standby.rows import must_be_same, must_be_two
from standby.walkers import step
from standby.words import must_be_of


class Table:
    """What a word does to every row."""

    def __init__(self, names, word):
        must_be_of(names, word)
        self.who = tuple(sorted(names))
        self.pairs = pairs_told(self.who, word)

    def __eq__(self, other):
        # One person alone has no pair, so that the people are looked at too.
        return isinstance(other, Table) and self.who == other.who and self.pairs == other.pairs

    def __len__(self):
        return len(self.who)

    def names(self):
        """Tell all people, rising."""
        return self.who

    def tells(self, one, other):
        """Tell the pair of the first row on which it hangs who of two is ahead."""
        must_be_two(self.who, one, other)
        return self.pairs[(one, other)]

    def then(self, other):
        """Tell the Table of this one's word and then other's."""
        must_be_same(self.who, other.names())
        # Walkers go from the last call back, so that other's word is walked first.
        return table_of(self.who, {pair: self.pairs[told] for pair, told in other.pairs.items()})

    def times(self, many):
        """Tell the Table of the word done so many times."""
        done = Table(self.who, [])
        doubled = self
        # Twice as often at each step: 10 ** 12 times are 40 steps.
        while many > 0:
            if many % 2 == 1:
                done = done.then(doubled)
            doubled = doubled.then(doubled)
            many //= 2
        return done

    def leads(self, row):
        """Tell the ROW behind the word."""
        must_be_same(self.who, row)
        places = {name: place for place, name in enumerate(row)}
        ahead = {name: 0 for name in row}
        for pair, told in self.pairs.items():
            if places[told[0]] < places[told[1]]:
                ahead[pair[1]] += 1
        # As many as stand ahead of somebody, that is their place.
        return tuple(sorted(row, key=lambda name: ahead[name]))


def pairs_told(names, word):
    """Tell by all ordered two people the pair that walkers come to."""
    pairs = {(one, other): (one, other) for one in names for other in names if one != other}
    for call in reversed(word):
        told = dict(call)
        pairs = {pair: step(told, pairs[pair]) for pair in pairs}
    return pairs


def table_of(names, pairs):
    """Tell the Table of these people that tells these pairs."""
    table = Table(names, [])
    table.pairs = pairs
    return table
