import inspect
import itertools
import math
import unittest

from standby import between
from standby.between import call_at, call_of_fewest, calls_many, fewest_goers, number_of, words_many
from standby.calling import called
from standby.calls import goers, is_call, stay
from standby.errors import NoNumber, Unlike
from standby.rows import falls, turned
from standby.words import called_all

from samples import (
    FAR_NUMBERS, PEOPLE, SMALL, all_calls, as_lists, kinds, many_calls, many_words, orders, refusal, shuffles, stays,
    unlike_people,
)

NO_NUMBERS = [-1, -2] + FAR_NUMBERS


def places_told(one, other, call):
    """The tuple by which CALLs rise."""
    told = dict(call)
    return tuple(one.index(told[name]) for name in other)


def leading(one):
    """By each ROW the CALLs that lead to it from one, rising, found by calling."""
    found = {}
    for call in all_calls(one):
        found.setdefault(called(one, call), []).append(call)
    return {other: sorted(found[other], key=lambda call: places_told(one, other, call)) for other in found}


def large_rows():
    """Two and two ROWs of many people: any, near ones, the same ones, turned about."""
    for many in (5, 9, 24):
        first, second = shuffles(PEOPLE[:many], 2, many)
        near = list(first)
        near[1], near[3] = near[3], near[1]
        for other in (second, tuple(near), first, turned(first), first[3:] + first[:3]):
            yield first, other
        for call in many_words(first, [6], many)[0]:
            yield first, called(first, call)


def least_of_fewest(one, other):
    """The places of the least CALL by which the fewest go, by trying all shorter ways of keeping people."""
    places = [one.index(name) for name in other]
    rises = [0] + [int(places[at] < places[at - 1]) for at in range(1, len(places))]
    best = {}
    # By the last place told: the greatest number of those who stay, and of such the least tuple.
    for at, place in enumerate(places):
        following = {}
        for told in range(len(one)):
            ways = [best[before] for before in best if before + rises[at] <= told] if at else [(0, ())]
            if ways:
                goes, way = min(ways)
                following[told] = (goes + (told != place), way + (told,))
        best = following
    return min(best.values())


class Interface(unittest.TestCase):
    def test_names_of_arguments(self):
        for ask, arguments in (
            (calls_many, ["one", "other"]),
            (call_at, ["one", "other", "number"]),
            (number_of, ["one", "call"]),
            (words_many, ["one", "other", "many"]),
            (fewest_goers, ["one", "other"]),
            (call_of_fewest, ["one", "other"]),
        ):
            self.assertEqual(list(inspect.signature(ask).parameters), arguments)
            self.assertEqual((ask.__module__, vars(between)[ask.__name__]), (between.__name__, ask))


class RowByRow(unittest.TestCase):
    def test_all_small_rows(self):
        """Promise (f) of [1]."""
        for names in SMALL:
            for one in orders(names):
                found = leading(one)
                for other in orders(names):
                    self.check(one, other, found[other])

    def check(self, one, other, calls):
        self.assertEqual(kinds(calls_many(one, other)), ("int", len(calls)))
        for number, call in enumerate(calls):
            self.assertEqual(kinds(call_at(one, other, number)), kinds(call))
            self.assertEqual(kinds(number_of(one, call)), ("int", number))
        self.assertEqual(refusal(NoNumber, call_at, one, other, len(calls)).number, len(calls))
        self.assertEqual(refusal(NoNumber, call_at, one, other, -1).number, -1)
        fewest = min(len(goers(call)) for call in calls)
        self.assertEqual(kinds(fewest_goers(one, other)), ("int", fewest))
        least = [call for call in calls if len(goers(call)) == fewest][0]
        self.assertEqual(kinds(call_of_fewest(one, other)), kinds(least))

    def test_rows_of_five(self):
        one = shuffles(PEOPLE[:5], 1, 5)[0]
        found = leading(one)
        self.assertEqual(len(found), 120)
        for other in found:
            self.check(one, other, found[other])

    def test_words_of_small_rows(self):
        for names in SMALL[:3]:
            rows = orders(names)
            calls = all_calls(names)
            for one in rows:
                ends = {one: 1}
                for many in range(5):
                    for other in rows:
                        self.assertEqual(kinds(words_many(one, other, many)), ("int", ends.get(other, 0)))
                    following = {}
                    for row, call in itertools.product(ends, calls):
                        behind = called(row, call)
                        following[behind] = following.get(behind, 0) + ends[row]
                    ends = following

    def test_words_of_four(self):
        rows = orders(SMALL[3])
        counts = {one: {other: len(calls) for other, calls in leading(one).items()} for one in rows}
        for one in rows[::5]:
            ends = {row: int(row == one) for row in rows}
            for many in range(4):
                self.assertEqual({row: words_many(one, row, many) for row in rows}, ends)
                ends = {row: sum(ends[mid] * counts[mid][row] for mid in rows) for row in rows}


class CallsMany(unittest.TestCase):
    def test_by_hand(self):
        self.assertEqual(calls_many(("a",), ("a",)), 1)
        self.assertEqual(calls_many(("a", "b"), ("a", "b")), 3)
        self.assertEqual(calls_many(("a", "b"), ("b", "a")), 1)
        self.assertEqual(calls_many(other=("b", "a", "c"), one=("a", "b", "c")), 4)
        self.assertEqual(calls_many(one=("a", "b", "c"), other=("b", "c", "a")), 4)

    def test_one_way_is_not_the_other(self):
        self.assertEqual(calls_many(("a", "b", "c", "d"), ("c", "a", "d", "b")), 5)
        self.assertEqual(calls_many(("c", "a", "d", "b"), ("a", "b", "c", "d")), 15)
        self.assertEqual(falls(("a", "b", "c", "d"), ("c", "a", "d", "b")), 2)

    def test_all(self):
        for one, other in large_rows():
            many = len(one)
            self.assertEqual(calls_many(one, other), math.comb(2 * many - 1 - falls(one, other), many))
            self.assertEqual(calls_many(one, one), math.comb(2 * many - 1, many))
            self.assertEqual(calls_many(one, turned(one)), 1)

    def test_all_calls_lead_somewhere(self):
        for names in SMALL:
            for one in orders(names):
                self.assertEqual(sum(calls_many(one, other) for other in orders(names)), len(names) ** len(names))


class CallAt(unittest.TestCase):
    def check(self, one, other, numbers):
        before = None
        for number in numbers:
            call = call_at(one, other, number)
            self.assertIs(is_call(call), True)
            self.assertEqual(called(one, call), other)
            self.assertEqual(number_of(one, call), number)
            places = places_told(one, other, call)
            self.assertTrue(before is None or before < places)
            before = places

    def test_large_rows(self):
        for one, other in large_rows():
            many = calls_many(one, other)
            self.check(one, other, sorted({0, many // 7, many // 3, many // 2, many - 1} | set(range(min(many, 9)))))

    def test_the_first_and_the_last(self):
        row = tuple(PEOPLE)
        self.assertEqual(call_at(row, row, 0), tuple((name, "a") for name in PEOPLE))
        self.assertEqual(call_at(row, row, math.comb(47, 24) - 1), tuple((name, "zzzzzz") for name in PEOPLE))
        self.assertEqual(call_at(row, turned(row), 0), tuple(zip(PEOPLE, PEOPLE[::-1])))

    def test_no_number(self):
        for one, other in list(large_rows()) + [(("a",), ("a",)), (("a", "b"), ("b", "a"))]:
            many = calls_many(one, other)
            for number in NO_NUMBERS + [many, many + 1]:
                self.assertEqual(refusal(NoNumber, call_at, one, other, number).number, number)
                self.assertEqual(refusal(NoNumber, call_at, number=number, other=list(other), one=one).number, number)

    def test_unlike_ahead_of_no_number(self):
        for names in (PEOPLE[:1], PEOPLE[:3], PEOPLE):
            for others, number in itertools.product(unlike_people(names), NO_NUMBERS + [0]):
                refusal(Unlike, call_at, tuple(names), tuple(others), number)
                refusal(Unlike, call_at, others, names, number)


class NumberOf(unittest.TestCase):
    def test_large_calls(self):
        for names in (PEOPLE[:5], PEOPLE[:9], PEOPLE):
            for row in shuffles(names, 3, 6):
                for call in many_calls(names, 3, 6) + many_words(names, [5], 6)[0] + [stay(names)]:
                    number = number_of(row, call)
                    other = called(row, call)
                    self.assertTrue(0 <= number < calls_many(row, other))
                    self.assertEqual(call_at(row, other, number), call)

    def test_by_hand(self):
        row = ("b", "a")
        self.assertEqual(number_of(("a",), (("a", "a"),)), 0)
        self.assertEqual(number_of(row, (("a", "b"), ("b", "b"))), 0)
        self.assertEqual(number_of(row, stay(row)), 1)
        self.assertEqual(number_of(call=(("a", "a"), ("b", "a")), one=row), 2)
        self.assertEqual(number_of(row, (("a", "b"), ("b", "a"))), 0)

    def test_unlike(self):
        for names in (PEOPLE[:1], PEOPLE[:3], PEOPLE):
            for others in unlike_people(names):
                refusal(Unlike, number_of, tuple(names), stays(others))
                refusal(Unlike, number_of, tuple(others), stays(names))


class WordsMany(unittest.TestCase):
    def test_many_calls(self):
        for one, other in large_rows():
            size = len(one)
            for many in (1, 2, 3, 39, 40):
                wanted = math.comb(size ** many + size - 1 - falls(one, other), size)
                self.assertEqual(kinds(words_many(one, other, many)), ("int", wanted))
            self.assertEqual(words_many(one, other, 0), int(one == other))
            self.assertEqual(words_many(one, other, 1), calls_many(one, other))

    def test_one_person(self):
        for many in (0, 1, 40):
            self.assertEqual(words_many(("a",), ["a"], many), 1)

    def test_by_hand(self):
        self.assertEqual(words_many(("a", "b"), ("a", "b"), 0), 1)
        self.assertEqual(words_many(("a", "b"), ("b", "a"), 0), 0)
        self.assertEqual(words_many(("a", "b"), ("a", "b"), 2), 10)
        self.assertEqual(words_many(many=2, other=("b", "a"), one=("a", "b")), 6)
        self.assertEqual(words_many(("a", "b"), ("a", "b"), 40) + words_many(("a", "b"), ("b", "a"), 40), 4 ** 40)

    def test_words_of_fewer_put_together(self):
        one = ("a", "b", "c", "d")
        for other in orders(one)[::5]:
            ways = sum(words_many(one, row, 3) * words_many(row, other, 5) for row in orders(one))
            self.assertEqual(words_many(one, other, 8), ways)


class Fewest(unittest.TestCase):
    def test_large_rows(self):
        for one, other in large_rows():
            goes, places = least_of_fewest(one, other)
            call = call_of_fewest(one, other)
            self.assertIs(is_call(call), True)
            self.assertEqual(called(one, call), other)
            self.assertEqual(kinds(fewest_goers(one, other)), ("int", goes))
            self.assertEqual(len(goers(call)), goes)
            self.assertEqual(places_told(one, other, call), places)

    def test_by_hand(self):
        row = tuple(PEOPLE)
        self.assertEqual(fewest_goers(row, row), 0)
        self.assertEqual(call_of_fewest(row, row), stay(row))
        self.assertEqual(fewest_goers(("a",), ("a",)), 0)
        self.assertEqual(fewest_goers(row, turned(row)), 24)
        self.assertEqual(fewest_goers(row[:23], turned(row[:23])), 22)
        self.assertEqual(call_of_fewest(("a", "b", "c"), ("b", "a", "c")), (("a", "c"), ("b", "b"), ("c", "c")))
        # To stay, a must be told the first place, but b, who goes ahead of them, needs one ahead of it.
        self.assertEqual(fewest_goers(other=("b", "a"), one=("a", "b")), 2)
        self.assertEqual(call_of_fewest(other=("a", "c", "b"), one=("a", "b", "c")), (("a", "a"), ("b", "b"), ("c", "a")))


class Everything(unittest.TestCase):
    def test_unlike(self):
        for names in (PEOPLE[:1], PEOPLE[:2], PEOPLE):
            for others in unlike_people(names):
                for one, other in ((names, others), (others, names), (tuple(names), tuple(others))):
                    for ask in (calls_many, fewest_goers, call_of_fewest):
                        refusal(Unlike, ask, one, other)
                        refusal(Unlike, ask, other=other, one=one)
                    for many in (0, 1, 40):
                        refusal(Unlike, words_many, one, other, many)

    def test_lists_for_tuples_and_names_of_arguments(self):
        for one, other in large_rows():
            number = calls_many(one, other) // 2
            call = call_at(one, other, number)
            for ask, told in (
                (calls_many, {"other": other, "one": one}),
                (call_at, {"number": number, "other": other, "one": one}),
                (number_of, {"call": call, "one": one}),
                (words_many, {"many": 3, "one": one, "other": other}),
                (fewest_goers, {"other": other, "one": one}),
                (call_of_fewest, {"other": other, "one": one}),
            ):
                wanted = kinds(ask(**told))
                self.assertEqual(kinds(ask(**{key: as_lists(told[key]) for key in told})), wanted)
                self.assertEqual(kinds(ask(*[told[key] for key in inspect.signature(ask).parameters])), wanted)

    def test_nothing_handed_in_is_changed(self):
        one, other = shuffles(PEOPLE, 2, 12)
        mine, theirs = list(one), list(other)
        told = [call_at(mine, theirs, 0), call_of_fewest(mine, theirs)]
        call = as_lists(told[0])
        number_of(mine, call)
        calls_many(mine, theirs)
        words_many(mine, theirs, 2)
        fewest_goers(mine, theirs)
        refusal(NoNumber, call_at, mine, theirs, -1)
        self.assertEqual((mine, theirs, call), (list(one), list(other), as_lists(told[0])))
        mine.reverse()
        theirs.clear()
        self.assertEqual(told, [call_at(one, other, 0), call_of_fewest(one, other)])

    def test_words_lead_there(self):
        one, other = shuffles(PEOPLE, 2, 13)
        self.assertEqual(called_all(one, [call_at(one, other, 5), call_of_fewest(other, one)]), one)


if __name__ == "__main__":
    unittest.main()
