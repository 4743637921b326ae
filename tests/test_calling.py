import inspect
import itertools
import unittest

from standby import calling
from standby.calling import called
from standby.calls import all_to, going, stay
from standby.errors import Unlike
from standby.rows import is_ahead, is_row

from samples import (
    PEOPLE, all_calls, as_lists, as_tuples, kinds, many_calls, many_words, orders, refusal, shuffles, stays,
    unlike_people,
)


def is_ahead_behind(row, call, one, other):
    """Who is ahead by the sentence in brackets of [6]."""
    told = dict(call)
    if told[one] == told[other]:
        return row.index(one) < row.index(other)
    return row.index(told[one]) < row.index(told[other])


class Called(unittest.TestCase):
    def check(self, row, call):
        behind = called(row, call)
        self.assertIs(is_row(behind), True)
        self.assertEqual(sorted(behind), sorted(row))
        for one, other in itertools.permutations(row, 2):
            self.assertIs(is_ahead(behind, one, other), is_ahead_behind(row, call, one, other), (row, call))

    def test_names_of_arguments(self):
        self.assertEqual(list(inspect.signature(called).parameters), ["row", "call"])
        self.assertEqual((called.__module__, called.__name__), (calling.__name__, "called"))

    def test_by_hand(self):
        row = ("cleo", "ann", "bob", "dan")
        self.assertEqual(called(row, (("ann", "ann"), ("bob", "cleo"), ("cleo", "cleo"), ("dan", "dan"))),
                         ("cleo", "bob", "ann", "dan"))
        self.assertEqual(called(row, (("ann", "dan"), ("bob", "bob"), ("cleo", "dan"), ("dan", "bob"))),
                         ("bob", "dan", "cleo", "ann"))
        self.assertEqual(called(row, (("ann", "bob"), ("bob", "cleo"), ("cleo", "dan"), ("dan", "ann"))),
                         ("bob", "dan", "ann", "cleo"))

    def test_one_person(self):
        self.assertEqual(kinds(called(("a",), (("a", "a"),))), kinds(("a",)))

    def test_all_small_rows(self):
        for names in (("a",), ("b", "a"), ("ab", "a", "b")):
            for row, call in itertools.product(orders(names), all_calls(names)):
                self.check(row, call)
        for call in all_calls(("d", "c", "b", "a")):
            for row in orders(("d", "c", "b", "a")):
                self.check(row, call)

    def test_many_people(self):
        for many in (5, 9, 24):
            names = PEOPLE[:many]
            calls = many_calls(names, 5, many) + many_words(names, [5], many)[0]
            for row, call in itertools.product(shuffles(names, 3, many), calls):
                self.check(row, call)

    def test_all_stay(self):
        for names in (PEOPLE[:1], PEOPLE[:2], PEOPLE):
            for row in shuffles(names, 3, 7):
                self.assertEqual(called(row, stay(names)), row)

    def test_all_are_told_one(self):
        for names in (PEOPLE[:1], PEOPLE[:2], PEOPLE):
            for row in shuffles(names, 3, 8):
                for name in names:
                    self.assertEqual(called(row, all_to(names, name)), row)

    def test_two_exchange(self):
        for row in shuffles(PEOPLE, 2, 9):
            for one, other in itertools.combinations(PEOPLE, 2):
                call = dict(stay(PEOPLE))
                call[one], call[other] = other, one
                wanted = [call[name] for name in row]
                self.assertEqual(called(row, tuple(call.items())), tuple(wanted))

    def test_one_goes(self):
        row = ("d", "b", "a", "c")
        self.assertEqual(called(row, going(row, "a", "d")), ("d", "a", "b", "c"))
        self.assertEqual(called(row, going(row, "d", "a")), ("b", "d", "a", "c"))
        self.assertEqual(called(row, going(row, "d", "c")), ("b", "a", "d", "c"))

    def test_lists_for_tuples_and_names_of_arguments(self):
        for row, call in zip(shuffles(PEOPLE, 4, 10), many_calls(PEOPLE, 4, 10)):
            wanted = kinds(called(row, call))
            self.assertEqual(kinds(called(list(row), as_lists(call))), wanted)
            self.assertEqual(kinds(called(row, list(call))), wanted)
            self.assertEqual(kinds(called(list(row), tuple(as_lists(call)))), wanted)
            self.assertEqual(kinds(called(call=call, row=row)), wanted)
            self.assertEqual(kinds(called(row, call=as_tuples(call))), wanted)

    def test_unlike(self):
        for names in (PEOPLE[:1], PEOPLE[:2], PEOPLE[:5], PEOPLE):
            for others in unlike_people(names):
                refusal(Unlike, called, tuple(names), stays(others))
                refusal(Unlike, called, tuple(others), stays(names))
                refusal(Unlike, called, others, as_lists(stays(names)))
                refusal(Unlike, called, call=stays(others), row=names)

    def test_nothing_handed_in_is_changed(self):
        for row, call in zip(shuffles(PEOPLE, 3, 11), many_calls(PEOPLE, 3, 11)):
            handed, told = list(row), as_lists(call)
            answer = called(handed, told)
            self.assertEqual((handed, told), (list(row), as_lists(call)))
            refusal(Unlike, called, handed + ["qq"], told)
            self.assertEqual((handed, told), (list(row), as_lists(call)))
            handed.reverse()
            told.clear()
            self.assertEqual(answer, called(row, call))


if __name__ == "__main__":
    unittest.main()
