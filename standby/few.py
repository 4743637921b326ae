"""Few are named: the fewest calls from row to row of which each names at most so many."""

from standby.between import least_places
from standby.calling import called
from standby.counting import power
from standby.rows import fallers, falls


def named(call):
    """Tell how many people are told to anybody."""
    return len({name for who, name in call})


def fewest_calls(one, other, few):
    """Tell of how many CALLs, each naming at most few, the shortest WORD from one to other is."""
    many = 0
    parted = 1
    # Those between two fallers need not be parted; each call parts each lot into few at most.
    lots = falls(one, other) + 1
    while parted < lots:
        parted *= few
        many += 1
    return many


def word_of_few(one, other, few):
    """Tell a shortest WORD from one to other of CALLs of which each names at most few."""
    row = tuple(one)
    lots = dict(zip(other, least_places(one, other)))
    word = []
    for each in range(fewest_calls(one, other, few)):
        # People are sorted by the figures of their lot's number, the last figure first.
        call = tuple([(name, row[lots[name] % few]) for name in sorted(lots)])
        lots = {name: lots[name] // few for name in lots}
        row = called(row, call)
        word.append(call)
    return word


def shows_few(one, other, few, many, thing):
    """Tell whether thing is a list of fallers that shows that no WORD of fewer than many such CALLs leads there."""
    falling = fallers(one, other)
    # Fallers are looked for first: only names can safely be members of a set.
    if not isinstance(thing, list) or not all([name in falling for name in thing]):
        return False
    return thing == sorted(set(thing)) and power(few, many - 1) <= len(thing)
