"""Calls: tuples of pairs of who is told and whom, the whos rising."""

from standby.rows import is_name, must_have


def is_pair(thing):
    """Tell whether thing is a pair of NAMEs."""
    return isinstance(thing, tuple) and len(thing) == 2 and is_name(thing[0]) and is_name(thing[1])


def is_call(thing):
    """Tell whether thing is a CALL."""
    if not isinstance(thing, tuple) or len(thing) == 0:
        return False
    if not all([is_pair(pair) for pair in thing]):
        return False
    told = dict(thing)
    if list(people(thing)) != sorted(told):
        return False
    return all([name in told for who, name in thing])


def people(call):
    """Tell all people of the call, rising."""
    return tuple([who for who, name in call])


def whom(call, name):
    """Tell whom somebody is told."""
    told = dict(call)
    must_have(told, name)
    return told[name]


def stay(names):
    """Tell the CALL at which each is told their own name."""
    return call_of(names, {})


def all_to(names, name):
    """Tell the CALL at which everybody is told one name."""
    return call_of(names, {who: name for who in names})


def going(names, who, name):
    """Tell the CALL at which who is told name, and all others their own."""
    return call_of(names, {who: name})


def call_of(names, told):
    """Tell the CALL at which people are told as the dict says, all others their own."""
    must_have_all(names, list(told))
    must_have_all(names, list(told.values()))
    return tuple([(who, told.get(who, who)) for who in sorted(names)])


def must_have_all(names, asked):
    """Refuse the least of the asked names that is none of these names."""
    for name in sorted(asked):
        must_have(names, name)


def groups(call):
    """Tell, for each who is told by anybody, those who are told them."""
    comers = {}
    for who, name in call:
        comers.setdefault(name, []).append(who)
    return [(name, tuple(comers[name])) for name in sorted(comers)]


def goers(call):
    """Tell those who are not told their own name, rising."""
    return [who for who, name in call if who != name]
