import inspect
import itertools
import random
import unittest

from standby import lots
from standby.calls import all_to, stay
from standby.errors import NoName, Unlike
from standby.lots import is_lot, least_lot, part_of, row_of
from standby.rows import is_row
from standby.words import called_all, is_word

from samples import (
    BAD_NAMES, NOTHINGS, PEOPLE, SMALL, as_lists, as_tuples, kinds, many_words, nested, orders, refusal, ring_call,
    shuffles, small_words, stays, unlike_words,
)

# The lots: (c), (a, c), (b, d) and what they make together; e is told a by one call, b by the other.
WORD = [
    (("a", "c"), ("b", "d"), ("c", "c"), ("d", "b"), ("e", "a")),
    (("a", "a"), ("b", "b"), ("c", "c"), ("d", "b"), ("e", "b")),
]
LOTS = [("a", "b", "c", "d"), ("a", "b", "c", "d", "e"), ("a", "c"), ("b", "c", "d"), ("b", "d"), ("c",)]


def subsets(names):
    """Every rising tuple of some of these people."""
    return [some for size in range(len(names) + 1) for some in itertools.combinations(sorted(names), size)]


def is_lot_by_words(word, some):
    """Whether a rising tuple of people is a lot, by the words of [15]."""
    return len(some) > 0 and all(name in some for call in word for who, name in call if who in some)


def parted_words(sizes, lengths, seed):
    """WORDs of people who stand in lots of these sizes."""
    chance = random.Random(seed)
    names = list(PEOPLE[:sum(sizes)])
    chance.shuffle(names)
    parts = []
    for size in sizes:
        parts.append([names.pop() for _ in range(size)])
    words = [many_words(part, lengths, seed + at) for at, part in enumerate(parts)]
    return [[tuple(sorted(itertools.chain(*calls))) for calls in zip(*some)] for some in zip(*words)]


LARGE = parted_words([9, 8, 4, 3], [1, 2, 3, 40], 1) + parted_words([23, 1], [1, 3], 2) + many_words(
    PEOPLE, [1, 2, 40], 3) + [[stays(PEOPLE)], [ring_call(PEOPLE)], [all_to(PEOPLE, "m")] * 2]


class Interface(unittest.TestCase):
    def test_names_of_arguments(self):
        for ask, arguments in (
            (is_lot, ["word", "thing"]),
            (least_lot, ["word", "name"]),
            (part_of, ["word", "lot"]),
            (row_of, ["row", "lot"]),
        ):
            self.assertEqual(list(inspect.signature(ask).parameters), arguments)
            self.assertEqual((ask.__module__, vars(lots)[ask.__name__]), (lots.__name__, ask))


class IsLot(unittest.TestCase):
    def test_by_hand(self):
        self.assertEqual([some for some in subsets("abcde") if is_lot(WORD, some)], sorted(LOTS, key=lambda lot: (
            len(lot), lot)))

    def test_all_small_words(self):
        for names in SMALL:
            for word in small_words(names)[1:]:
                for some in subsets(names):
                    self.assertIs(is_lot(word, some), is_lot_by_words(word, some), (word, some))

    def test_one_person(self):
        self.assertIs(is_lot([(("a", "a"),)], ("a",)), True)
        self.assertIs(is_lot([(("a", "a"),)], ()), False)

    def test_a_word_of_no_call_has_no_lot(self):
        for thing in (("a",), ("a", "b"), (), None, ["a"]):
            self.assertIs(is_lot([], thing), False)
        self.assertEqual(refusal(NoName, least_lot, [], "a").name, "a")

    def test_the_lot_of_all(self):
        for word in LARGE:
            self.assertIs(is_lot(word, tuple(PEOPLE)), True)
            self.assertIs(is_lot(word, tuple(PEOPLE[::-1])), False)
            self.assertIs(is_lot(word, tuple(PEOPLE + ["zzzzzz"])), False)
            self.assertIs(is_lot(word, list(PEOPLE)), False)

    def test_all_told_their_own_all_told_one_all_told_round(self):
        for some in subsets("abcde"):
            self.assertIs(is_lot([stay("abcde")], some), len(some) > 0)
            self.assertIs(is_lot([all_to("abcde", "c")], some), "c" in some)
            self.assertIs(is_lot([ring_call("abcde")], some), len(some) == 5)

    def test_things_of_any_kind(self):
        things = NOTHINGS + [["c"], ["a", "c"], [("c",)], (["c"],), (("c",),), "c", "ac", {"c": "c"}, ("c", None),
                             (None, "c"), (True,), ("c", "c"), ("a", "c", "c"), ("c", "a"), ("ac",), ("c", ("c",)),
                             ("c", ["a"]), (0, "c"), ("c", 1), ("", "c"), ("c",) * 1000, nested("c", 8),
                             (("a", "c"),), ("d", "b"), ("a", "b", "d", "c"), ("b", "b", "d"), ("b", "d", "f")]
        for thing in things:
            if thing not in LOTS:
                self.assertIs(is_lot(WORD, thing), False, thing)
                self.assertIs(is_lot(word=WORD[:1], thing=thing), False, thing)
        for bad in BAD_NAMES + ["f", "cc", "zzzzzz"]:
            for lot in LOTS:
                self.assertIs(is_lot(WORD, (bad,)), False)
                self.assertIs(is_lot(WORD, tuple(sorted(lot + (bad,)))), False)

    def test_whatever_size(self):
        self.assertIs(is_lot(WORD, tuple(PEOPLE) * 500), False)
        self.assertIs(is_lot(WORD, (list(PEOPLE),) * 500), False)
        self.assertIs(is_lot(WORD, tuple(range(5000))), False)


class LeastLot(unittest.TestCase):
    def check(self, word, name, lot):
        self.assertIsInstance(lot, tuple)
        self.assertIs(is_lot(word, lot), True)
        self.assertIn(name, lot)
        # Each of them is there for a reason: they can be walked to.
        reached = {name}
        for _ in lot:
            reached |= {told for call in word for who, told in call if who in reached}
        self.assertEqual(lot, tuple(sorted(reached)))

    def test_by_hand(self):
        wanted = {"a": ("a", "c"), "b": ("b", "d"), "c": ("c",), "d": ("b", "d"), "e": ("a", "b", "c", "d", "e")}
        for name, lot in wanted.items():
            self.assertEqual(least_lot(WORD, name), lot)
        self.assertEqual(least_lot(WORD[:1], "e"), ("a", "c", "e"))
        self.assertEqual(least_lot(name="e", word=WORD[1:]), ("b", "e"))
        self.assertEqual(least_lot([(("a", "a"),)], "a"), ("a",))

    def test_all_small_words(self):
        for names in SMALL:
            for word in small_words(names)[1:]:
                for name in names:
                    lot = least_lot(word, name)
                    self.check(word, name, lot)
                    for some in subsets(names):
                        if name in some and is_lot_by_words(word, some):
                            self.assertLessEqual(set(lot), set(some))

    def test_large_words(self):
        for word in LARGE:
            for name in PEOPLE:
                self.check(word, name, least_lot(word, name))
        self.assertEqual(least_lot([ring_call(PEOPLE)], "m"), tuple(PEOPLE))
        self.assertEqual(least_lot([stays(PEOPLE)], "m"), ("m",))
        self.assertEqual(least_lot([all_to(PEOPLE, "m")], "z"), ("m", "z"))

    def test_no_name(self):
        for bad in BAD_NAMES + ["f", "aa", "zzzzzz"]:
            self.assertEqual(refusal(NoName, least_lot, WORD, bad).name, bad)
            self.assertEqual(refusal(NoName, least_lot, name=bad, word=as_lists(WORD)).name, bad)


class Alone(unittest.TestCase):
    def check(self, word, lot, rows):
        part = part_of(word, lot)
        self.assertIs(is_word(part), True)
        self.assertEqual(part, [tuple(pair for pair in call if pair[0] in lot) for call in word])
        for row in rows:
            own = row_of(row, lot)
            self.assertIs(is_row(own), True)
            self.assertEqual(own, tuple(name for name in row if name in lot))
            self.assertEqual(called_all(own, part), row_of(called_all(row, word), lot))

    def test_small_words(self):
        for names in SMALL:
            for word in small_words(names)[1:]:
                for lot in subsets(names):
                    if is_lot_by_words(word, lot):
                        self.check(word, lot, orders(names)[::3])

    def test_large_words(self):
        for word in LARGE:
            for lot in {least_lot(word, name) for name in PEOPLE} | {tuple(PEOPLE)}:
                self.check(word, lot, shuffles(PEOPLE, 3, 4))

    def test_by_hand(self):
        self.assertEqual(part_of(WORD, ("b", "d")), [(("b", "d"), ("d", "b")), (("b", "b"), ("d", "b"))])
        self.assertEqual(part_of(lot=("c",), word=WORD), [(("c", "c"),), (("c", "c"),)])
        self.assertEqual(part_of(WORD, ("a", "b", "c", "d", "e")), WORD)
        self.assertEqual(row_of(("e", "d", "c", "b", "a"), ("b", "d")), ("d", "b"))
        self.assertEqual(row_of(lot=("a", "b", "c"), row=("c", "a", "b")), ("c", "a", "b"))
        self.assertEqual(row_of(("a",), ("a",)), ("a",))


class Everything(unittest.TestCase):
    def test_unlike(self):
        for names in (["b", "a"], PEOPLE[:4], PEOPLE):
            for word in unlike_words(names):
                if all(call[0] == word[0][0] and len(call) == len(word[0]) for call in word):
                    continue
                name = word[0][0][0]
                for handed in (word, as_lists(word), as_tuples(word)):
                    refusal(Unlike, least_lot, handed, name)
                    refusal(Unlike, part_of, handed, (name,))
                    for thing in ((name,), None, (), [name], True, 5, "a"):
                        refusal(Unlike, is_lot, handed, thing)

    def test_lists_for_tuples(self):
        row = ("e", "d", "c", "b", "a")
        for handed in (as_lists(WORD), as_tuples(WORD), tuple(as_lists(WORD))):
            for lot in LOTS:
                self.assertIs(is_lot(handed, lot), True)
                self.assertEqual(kinds(part_of(handed, lot)), kinds(part_of(WORD, lot)))
                self.assertEqual(kinds(part_of(handed, list(lot))), kinds(part_of(WORD, lot)))
                self.assertEqual(kinds(row_of(list(row), list(lot))), kinds(row_of(row, lot)))
            for name in row:
                self.assertEqual(kinds(least_lot(handed, name)), kinds(least_lot(WORD, name)))

    def test_nothing_handed_in_is_changed(self):
        word, lot, row = as_lists(WORD), ["b", "d"], ["e", "d", "c", "b", "a"]
        part, own = part_of(word, lot), row_of(row, lot)
        least_lot(word, "e")
        is_lot(word, lot)
        refusal(NoName, least_lot, word, "zz")
        self.assertEqual((word, lot, row), (as_lists(WORD), ["b", "d"], ["e", "d", "c", "b", "a"]))
        word[0].reverse()
        lot.clear()
        row.clear()
        self.assertEqual((part, own), (part_of(WORD, ("b", "d")), ("d", "b")))

    def test_told_words_are_the_askers_own(self):
        told = part_of(WORD, ("c",))
        told.clear()
        self.assertEqual(len(part_of(WORD, ("c",))), 2)
        self.assertIsNot(part_of(WORD, ("c",)), part_of(WORD, ("c",)))


if __name__ == "__main__":
    unittest.main()
