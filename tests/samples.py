"""What several tests share: people, names, things that are nothing, refusals."""

import itertools
import random

# Rising, with names of one to six letters, some the beginning of others.
PEOPLE = [
    "a", "aa", "ab", "abc", "b", "ba", "bcdefg", "c", "d", "e", "f", "g",
    "h", "i", "j", "k", "l", "m", "mn", "n", "x", "y", "z", "zzzzzz",
]

NAMES = PEOPLE + ["abcdef", "uvwxyz", "q", "qqqqqq", "true", "none"]

# Texts that are no NAME, but that NoName may refuse.
BAD_NAMES = [
    "", " ", "A", "Z", "aB", "Ab", "ABC", "abcdefg", "abcdefgh", "a" * 1000, "a b", " a", "a ", "a\n", "\na", "\n",
    "a\t", "0", "7", "a1", "1a", "a-b", "a_b", "_", "-", "a>b", "a,b", "`", "{", "@", "[", "~", "a`", "{a", "\x00",
    "\xe9", "\xdf", "\xaa", "\u0131", "\u03b1", "\uff41", "\u1d43", "a\xe9", "\U0001d41a",
]

# Groups of people so few that all their rows can be gone through.
SMALL = (("a",), ("b", "a"), ("c", "ab", "a"), ("a", "b", "c", "d"))

NUMBERS = [0, 1, -1, 2, 6, 24, 10 ** 12, -(10 ** 30)]

# Numbers far beyond all bounds, some of more figures than Python writes out.
FAR_NUMBERS = [-(10 ** 12), -(10 ** 60), 10 ** 30, 10 ** 100, 10 ** 5000, -(10 ** 5000)]


def nested(thing, depth):
    """Thing within so many tuples."""
    for _ in range(depth):
        thing = (thing,)
    return thing


# Things that are neither a ROW nor a CALL.
NOTHINGS = [
    True, False, None, "", "a", "ab", "abc", "a b", "aa", (), [], ((),), ([],), [()], [[]], ((), ()), ("",),
    (None,), (True,), (False,), (0,), (1,), ["a"], ["a", "b"], [["a", "a"]], (["a"],), [("a",)],
    [("a", "a")], [("a", "b"), ("b", "a")], (["a", "a"],), (("a", "b"), ["b", "a"]), [["a", "b"], ["b", "a"]],
    (("a", ["a"]),), ((["a"], "a"),), ((("a",), "a"),), (("a", ("a",)),), ((("a", "a"),),),
    (None, None), ((None, None),), ((True, True),), ((0, 0),), ((1, 1),),
    ("a", ("b", "b")), (("a", "a"), "b"), ("a", ["b"]), ("a", None), ("a", 1), (1, "a"), ("a", True), ("a", ()),
    nested("a", 2), nested("a", 8), nested((), 7), nested("ab", 3), nested(None, 8), nested(["a", "a"], 7),
    ("a",) * 1000, (("a", "a"),) * 1000, (1,) * 1000, ((),) * 1000, "a" * 1000, ("a" * 1000,),
] + NUMBERS + [(number,) for number in NUMBERS]


def shuffles(names, many, seed):
    """So many ROWs of these people, in all kinds of orders."""
    chance = random.Random(seed)
    rows = []
    for _ in range(many):
        row = list(names)
        chance.shuffle(row)
        rows.append(tuple(row))
    return rows


def all_calls(names):
    """Every CALL of just these people."""
    whos = sorted(names)
    return [tuple(zip(whos, told)) for told in itertools.product(whos, repeat=len(whos))]


def many_calls(names, many, seed):
    """So many CALLs of these people, of all kinds."""
    chance = random.Random(seed)
    whos = sorted(names)
    return [tuple((who, chance.choice(whos[:1 + chance.randrange(len(whos))])) for who in whos) for _ in range(many)]


def mixed_call(names, chance):
    """A CALL of these people: all to few, each to a place of their own, a few who go, or anything."""
    whos = sorted(names)
    way = chance.randrange(4)
    if way == 0:
        few = [chance.choice(whos) for _ in range(2)]
        return tuple((who, chance.choice(few)) for who in whos)
    if way == 1:
        told = list(whos)
        chance.shuffle(told)
        return tuple(zip(whos, told))
    if way == 2:
        return tuple((who, who if chance.randrange(4) else chance.choice(whos)) for who in whos)
    return tuple((who, chance.choice(whos)) for who in whos)


def many_words(names, lengths, seed):
    """A WORD of these people for each of the lengths."""
    chance = random.Random(seed)
    return [[mixed_call(names, chance) for _ in range(length)] for length in lengths]


def orders(names):
    """Every ROW of just these people."""
    return list(itertools.permutations(names))


def stays(names):
    """The CALL at which each is told their own."""
    return tuple((name, name) for name in sorted(names))


def ring_call(names):
    """The CALL at which each is told the next one, the last one the first."""
    names = sorted(names)
    return tuple(zip(names, names[1:] + names[:1]))


def small_words(names):
    """WORDs of few people: none, one and many calls, and each call of up to three people."""
    words = [[], [stays(names)]] + many_words(names, [1, 1, 1, 1, 2, 2, 3, 3, 5, 9], 3)
    if len(names) < 4:
        words += [[call] for call in all_calls(names)]
    return words


def unlike_people(names):
    """Lists of other people: one more, one fewer, another one, all others."""
    names = sorted(names)
    lists = [names + ["qq"], names[:-1] + ["qq"], ["aaa"] + names[1:], ["p" + "qr"[at % 2] * at for at in range(1, 4)]]
    return lists + [names[:-1], names[1:]] * (len(names) > 1)


def unlike_words(names):
    """WORDs of other people, and lists of CALLs of which a first, a last or a middle one is of other people."""
    own = stays(names)
    words = []
    for others in unlike_people(names):
        other = stays(others)
        words += [[other], [other, other], [own, other], [other, own], [own, other, own], [own] * 39 + [other]]
    return words


def as_lists(value):
    """Value with lists for tuples, at any depth."""
    if isinstance(value, (list, tuple)):
        return [as_lists(part) for part in value]
    return value


def as_tuples(value):
    """Value with tuples for lists, at any depth."""
    if isinstance(value, (list, tuple)):
        return tuple(as_tuples(part) for part in value)
    return value


def kinds(value):
    """Value with its kinds written out, as == alone takes True for 1."""
    if isinstance(value, (list, tuple)):
        return (type(value).__name__, [kinds(part) for part in value])
    return (type(value).__name__, value)


def refusal(kind, ask, *told, **named):
    """The refusal of just this kind with which the question is met."""
    try:
        answer = ask(*told, **named)
    except Exception as error:
        if type(error) is not kind:
            raise
        return error
    raise AssertionError(f"{kind.__name__} was due, but {answer!r} was told")
