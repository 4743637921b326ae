"""Words: lists of calls of the same people, done one behind the other."""

from standby.calling import called
from standby.calls import is_call, people
from standby.rows import must_be_same


def is_word(thing):
    """Tell whether thing is a WORD."""
    if not isinstance(thing, list) or not all([is_call(call) for call in thing]):
        return False
    whos = [people(call) for call in thing]
    return all([who == whos[0] for who in whos])


def must_be_of(names, word):
    """Refuse a word that has a call of other people than these."""
    for call in word:
        must_be_same(names, people(call))


def must_be_of_one(word):
    """Refuse calls of unlike people."""
    if len(word) > 0:
        must_be_of(people(word[0]), word)


def called_all(row, word):
    """Tell the ROW behind all calls of the word."""
    return rows_behind(row, word)[-1]


def rows_behind(row, word):
    """Tell the ROWs behind none, one, .. all calls of the word."""
    rows = [tuple(row)]
    for call in word:
        rows.append(called(rows[-1], call))
    return rows


def renamed(word, names):
    """Tell the WORD in which everybody is called as the dict says."""
    must_be_of_one(word)
    return [tuple(sorted([(names[who], names[name]) for who, name in call])) for call in word]
