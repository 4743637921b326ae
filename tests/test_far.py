import inspect
import itertools
import unittest

from standby import far as module
from standby.errors import Unlike
from standby.far import changes, comes_round, far, rests
from standby.rows import is_ahead
from standby.walkers import pair_of
from standby.words import called_all

from samples import (
    PEOPLE, SMALL, as_lists, as_tuples, kinds, many_words, orders, refusal, shuffles, small_words, stays, unlike_people,
    unlike_words,
)

OFTEN = 10 ** 12
TURN = (("a", "b"), ("b", "c"), ("c", "a"))


def gone_through(row, word):
    """All rows until one comes again, time by time, and the number of times behind which that one was there."""
    rows = [tuple(row)]
    at = {rows[0]: 0}
    while True:
        row = called_all(rows[-1], word)
        if row in at:
            return rows, at[row]
        at[row] = len(rows)
        rows.append(row)


def row_at(rows, begin, many):
    """The row behind so many times."""
    return rows[many if many < begin else begin + (many - begin) % (len(rows) - begin)]


def turning(lots):
    """The CALL at which each of a lot is told the next one."""
    told = {}
    for lot in lots:
        told.update(zip(lot, lot[1:] + lot[:1]))
    return tuple(sorted(told.items()))


class Interface(unittest.TestCase):
    def test_names_of_arguments(self):
        for ask, arguments in (
            (far, ["row", "word", "many"]),
            (comes_round, ["row", "word"]),
            (changes, ["row", "word", "one", "other", "many"]),
            (rests, ["row", "word"]),
        ):
            self.assertEqual(list(inspect.signature(ask).parameters), arguments)
            self.assertEqual(ask.__module__, module.__name__)


class SmallRows(unittest.TestCase):
    def test_against_time_by_time(self):
        """Promise (c) of [1]."""
        for names in SMALL:
            for word, row in itertools.product(small_words(names), orders(names)):
                rows, begin = gone_through(row, word)
                self.assertEqual(kinds(comes_round(row, word)), kinds((begin, len(rows) - begin)), (row, word))
                self.assertIs(rests(row, word), called_all(row, word) == row)
                for many in (0, 1, 2, 3, 4, 5, 11, 12, 100, OFTEN, OFTEN + 1, OFTEN + 7):
                    self.assertEqual(kinds(far(row, word, many)), kinds(row_at(rows, begin, many)), (row, word, many))

    def test_changes_against_time_by_time(self):
        for names in SMALL:
            for word in small_words(names)[:16]:
                for row in orders(names)[::3]:
                    rows, begin = gone_through(row, word)
                    for one, other in itertools.product(names, repeat=2):
                        ahead = [is_ahead(row_at(rows, begin, many), one, other) for many in range(41)]
                        for many in (0, 1, 2, 3, 5, 8, 40):
                            wanted = sum(ahead[at] != ahead[at + 1] for at in range(many))
                            self.assertEqual(kinds(changes(row, word, one, other, many)), ("int", wanted))


class ManyPeople(unittest.TestCase):
    def words(self):
        for names in (PEOPLE[:6], PEOPLE[:9], PEOPLE):
            for word in many_words(names, [1, 1, 2, 2, 3, 40], len(names)):
                for row in shuffles(names, 2, 4):
                    yield names, row, word

    def test_far_and_comes_round(self):
        for _, row, word in self.words():
            rows, begin = gone_through(row, word)
            self.assertEqual(comes_round(row, word), (begin, len(rows) - begin))
            for many in (0, 1, 2, begin, begin + 1, len(rows), 1000, OFTEN):
                self.assertEqual(far(row, word, many), row_at(rows, begin, many))
            self.assertIs(rests(row, word), rows[1:2] in ([], [row]))

    def test_changes(self):
        for names, row, word in self.words():
            rows, begin = gone_through(row, word)
            later = len(rows) - begin
            for one, other in list(itertools.permutations(names, 2))[::7 if len(names) < 10 else 61]:
                ahead = [is_ahead(row_at(rows, begin, many), one, other) for many in range(len(rows) + later + 1)]
                turns = [ahead[at] != ahead[at + 1] for at in range(len(ahead) - 1)]
                for many in (0, 1, 2, begin, begin + 1, len(rows), len(turns)):
                    self.assertEqual(changes(row, word, one, other, many), sum(turns[:many]))
                whole, rest = divmod(OFTEN - begin, later)
                wanted = sum(turns[:begin]) + whole * sum(turns[begin:begin + later]) + sum(turns[begin:begin + rest])
                self.assertEqual(kinds(changes(row, word, one, other, OFTEN)), ("int", wanted))


class Far(unittest.TestCase):
    def test_by_hand(self):
        row = ("a", "b", "c")
        self.assertEqual(far(row, [TURN], 1), ("c", "a", "b"))
        self.assertEqual(far(row, [TURN], 2), ("b", "c", "a"))
        self.assertEqual(far(row, [TURN], OFTEN), ("c", "a", "b"))
        self.assertEqual(comes_round(row, [TURN]), (0, 3))
        self.assertEqual(changes(row, [TURN], "a", "b", OFTEN), 666666666666)
        self.assertEqual(changes(row, [TURN], "a", "c", OFTEN), 666666666667)
        self.assertIs(rests(row, [TURN]), False)
        self.assertIs(rests(row, [TURN] * 3), True)

    def test_comes_late(self):
        # Each is told the next one, the last one their own: in the end all hangs on how the last two stood.
        call = tuple((name, PEOPLE[min(at + 1, 23)]) for at, name in enumerate(PEOPLE))
        row = tuple(PEOPLE[:22]) + (PEOPLE[23], PEOPLE[22])
        last = tuple(PEOPLE[::-1])
        self.assertEqual(comes_round(row, [call]), (22, 1))
        self.assertIs(rests(row, [call]), False)
        self.assertNotEqual(far(row, [call], 21), last)
        self.assertEqual(far(row, [call], 22), last)
        self.assertEqual(far(row, [call], OFTEN), last)
        self.assertIs(rests(last, [call]), True)
        self.assertEqual(changes(row, [call], PEOPLE[0], PEOPLE[1], OFTEN), 1)
        self.assertEqual(changes(row, [call], PEOPLE[0], PEOPLE[1], 21), 0)

    def test_long_rounds(self):
        lots = (PEOPLE[:3], PEOPLE[3:8], PEOPLE[8:15], PEOPLE[15:23])
        call = turning(list(lots) + [PEOPLE[23:]])
        for row in shuffles(PEOPLE, 3, 5):
            self.assertEqual(comes_round(row, [call]), (0, 840))
            self.assertEqual(far(row, [call], OFTEN), far(row, [call], OFTEN % 840))
            self.assertEqual(far(row, [call], 840 * 10 ** 9), row)

    def test_the_round_of_a_row_may_be_shorter_than_that_of_pairs(self):
        # The pairs on which all hangs go rounds of two; some rows go such rounds too, others rest.
        word = [(("a", "a"), ("b", "a"), ("c", "c")), (("a", "a"), ("b", "c"), ("c", "b"))]
        pairs = [("a", "b"), pair_of(word, "a", "b"), pair_of(word * 2, "a", "b")]
        self.assertEqual(pairs, [("a", "b"), ("a", "c"), ("a", "b")])
        for row in orders("abc"):
            rows, begin = gone_through(row, word)
            self.assertEqual(comes_round(row, word), (begin, len(rows) - begin))
        self.assertEqual({comes_round(row, word) for row in orders("abc")}, {(0, 1), (1, 1), (0, 2)})

    def test_never_moves(self):
        for names in (["a"], PEOPLE[:2], PEOPLE):
            for word in ([], (), [stays(names)], [tuple((name, names[0]) for name in names)] * 3):
                for row in shuffles(names, 2, 6):
                    self.assertEqual(comes_round(row, word), (0, 1))
                    self.assertIs(rests(row, word), True)
                    for many in (0, 1, OFTEN):
                        self.assertEqual(kinds(far(list(row), word, many)), kinds(row))
                        self.assertEqual(changes(row, word, row[0], row[-1], many), 0)

    def test_one_and_the_same_never_changes(self):
        for name in "abc":
            self.assertEqual(changes(("c", "a", "b"), [TURN], name, name, OFTEN), 0)


class Everything(unittest.TestCase):
    def asked(self, row, word):
        one, other = sorted(row)[0], sorted(row)[-1]
        return [
            (far, {"row": row, "word": word, "many": 5}),
            (far, {"row": row, "word": word, "many": 0}),
            (comes_round, {"row": row, "word": word}),
            (changes, {"row": row, "word": word, "one": one, "other": other, "many": 9}),
            (changes, {"row": row, "word": word, "one": one, "other": other, "many": 0}),
            (changes, {"row": row, "word": word, "one": one, "other": one, "many": 1}),
            (rests, {"row": row, "word": word}),
        ]

    def test_lists_tuples_and_names_of_arguments(self):
        for names in SMALL + (tuple(PEOPLE),):
            for word in many_words(names, [0, 1, 3], 7):
                for row in shuffles(names, 2, 7):
                    for ask, told in self.asked(row, word):
                        wanted = kinds(ask(*told.values()))
                        for handed in (as_lists(word), as_tuples(word), tuple(as_lists(word))):
                            named = dict(reversed(list({**told, "row": list(row), "word": handed}.items())))
                            self.assertEqual(kinds(ask(**named)), wanted)

    def test_unlike(self):
        for names in (PEOPLE[:1], PEOPLE[:3], PEOPLE):
            for word in unlike_words(names):
                for handed in (word, as_lists(word)):
                    for ask, told in self.asked(names, handed):
                        refusal(Unlike, ask, **told)
            for others in unlike_people(names):
                for ask, told in self.asked(others, [stays(names)]):
                    refusal(Unlike, ask, **told)

    def test_nothing_handed_in_is_changed(self):
        for names in SMALL + (tuple(PEOPLE),):
            for word in many_words(names, [0, 1, 3], 8):
                row, handed = list(names), as_lists(word)
                for ask, told in self.asked(row, handed):
                    ask(**told)
                    self.assertEqual((row, handed), (list(names), as_lists(word)))


if __name__ == "__main__":
    unittest.main()
