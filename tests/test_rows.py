import inspect
import itertools
import unittest

from standby import rows
from standby.errors import NoName, Unlike
from standby.rows import falls, is_ahead, is_row, place_of, turned

from samples import BAD_NAMES, NAMES, NOTHINGS, PEOPLE, as_lists, kinds, orders, refusal, shuffles

ROWS = [("a",), ("zzzzzz",), ("a", "b"), ("b", "a"), ("c", "a", "b"), ("ab", "a", "b", "abcdef")] + shuffles(PEOPLE, 6, 1)


class Interface(unittest.TestCase):
    def test_names_of_arguments(self):
        wanted = {
            "is_row": ["thing"],
            "place_of": ["row", "name"],
            "is_ahead": ["row", "one", "other"],
            "turned": ["row"],
            "falls": ["one", "other"],
        }
        for name, arguments in wanted.items():
            ask = getattr(rows, name)
            self.assertEqual(list(inspect.signature(ask).parameters), arguments)
            self.assertEqual((ask.__module__, ask.__name__), ("standby.rows", name))


class IsRow(unittest.TestCase):
    def test_rows(self):
        for row in ROWS + [tuple(PEOPLE), tuple(NAMES)]:
            self.assertIs(is_row(row), True, row)
            self.assertIs(is_row(thing=row), True, row)

    def test_names_of_each_letter_and_length(self):
        for letter in "abcdefghijklmnopqrstuvwxyz":
            for many in range(1, 7):
                self.assertIs(is_row((letter * many,)), True, (letter, many))
                self.assertIs(is_row(("q" * (many - 1) + letter,)), True, (letter, many))
            self.assertIs(is_row((letter * 7,)), False)
            self.assertIs(is_row((letter.upper(),)), False)

    def test_bad_names_at_each_place(self):
        for bad in BAD_NAMES:
            for row in ((bad,), (bad, "a", "b"), ("a", bad, "b"), ("a", "b", bad)):
                self.assertIs(is_row(row), False, row)

    def test_all_signs_by_themselves(self):
        for code in range(0x250):
            sign = chr(code)
            self.assertIs(is_row((sign,)), "a" <= sign <= "z", code)
            self.assertIs(is_row(("a" + sign + "a",)), "a" <= sign <= "z", code)

    def test_a_name_twice(self):
        for row in (("a", "a"), ("a", "b", "a"), ("a", "b", "b"), ("b", "b", "a"), tuple(PEOPLE) + ("a",)):
            self.assertIs(is_row(row), False, row)

    def test_all_small_tuples(self):
        for many in range(5):
            for thing in itertools.product(("a", "b", "ab", "A"), repeat=many):
                good = many > 0 and len(set(thing)) == many and "A" not in thing
                self.assertIs(is_row(thing), good, thing)

    def test_nothings(self):
        for thing in NOTHINGS:
            self.assertIs(is_row(thing), False, repr(thing)[:80])

    def test_parts_that_are_no_texts(self):
        for part in (None, True, False, 0, 1, (), [], ("a",), ["a"], ("b", "c"), [["b"]]):
            for thing in ((part,), (part, "a"), ("a", part), (part, part), ("a", "b", part)):
                self.assertIs(is_row(thing), False, repr(thing))

    def test_calls_are_no_rows(self):
        self.assertIs(is_row((("a", "a"),)), False)
        self.assertIs(is_row((("a", "b"), ("b", "a"))), False)

    def test_lists_are_no_rows(self):
        for row in ROWS:
            self.assertIs(is_row(list(row)), False, row)
            self.assertIs(is_row((list(row),)), False, row)
            self.assertIs(is_row((row,)), False, row)

    def test_texts_are_no_rows(self):
        for text in NAMES + BAD_NAMES:
            self.assertIs(is_row(text), False, text)

    def test_whatever_size(self):
        many = tuple("".join(letters) for letters in itertools.product("abcdefghij", repeat=4))
        self.assertIs(is_row(many), True)
        self.assertIs(is_row(many + ("aaaa",)), False)
        self.assertIs(is_row(many + ("aaaaaaa",)), False)
        self.assertIs(is_row(("a",) * 100000), False)
        self.assertIs(is_row(("a" * 1000000,)), False)

    def test_thing_is_not_changed(self):
        thing = (["a"], ["b", ["c"]])
        self.assertIs(is_row(thing), False)
        self.assertEqual(thing, (["a"], ["b", ["c"]]))


class PlaceOf(unittest.TestCase):
    def test_each_place(self):
        for row in ROWS:
            for place, name in enumerate(row):
                for handed in (row, list(row)):
                    self.assertEqual(kinds(place_of(handed, name)), ("int", place))

    def test_by_name_in_another_order(self):
        self.assertEqual(place_of(name="b", row=("c", "a", "b")), 2)
        self.assertEqual(place_of(("c", "a", "b"), name="a"), 1)

    def test_no_name(self):
        for row in ROWS:
            for name in BAD_NAMES + [name for name in NAMES if name not in row]:
                for handed in (row, list(row)):
                    self.assertEqual(refusal(NoName, place_of, handed, name).name, name)

    def test_part_of_a_name_is_nobodys(self):
        self.assertEqual(refusal(NoName, place_of, ("abc", "bcd"), "a").name, "a")
        self.assertEqual(refusal(NoName, place_of, ("abc", "bcd"), "bc").name, "bc")
        self.assertEqual(refusal(NoName, place_of, ("ab",), "abc").name, "abc")


class IsAhead(unittest.TestCase):
    def test_all_two_people(self):
        for row in ROWS:
            for (place, one), (there, other) in itertools.product(enumerate(row), repeat=2):
                self.assertIs(is_ahead(row, one, other), place < there, (row, one, other))

    def test_one_and_the_same(self):
        self.assertIs(is_ahead(("a",), "a", "a"), False)
        for name in PEOPLE:
            self.assertIs(is_ahead(PEOPLE, name, name), False)

    def test_lists_for_tuples(self):
        self.assertIs(is_ahead(["b", "a"], "b", "a"), True)
        self.assertIs(is_ahead(["b", "a"], "a", "b"), False)

    def test_by_name_in_another_order(self):
        self.assertIs(is_ahead(other="a", one="b", row=("b", "c", "a")), True)
        self.assertIs(is_ahead(("b", "c", "a"), other="b", one="a"), False)

    def test_no_name_of_one_then_of_other(self):
        row = ("c", "a", "b")
        for name in BAD_NAMES + ["d", "aa", "zzzzzz"]:
            self.assertEqual(refusal(NoName, is_ahead, row, name, "a").name, name)
            self.assertEqual(refusal(NoName, is_ahead, row, "a", name).name, name)
            self.assertEqual(refusal(NoName, is_ahead, row, name, name).name, name)
            self.assertEqual(refusal(NoName, is_ahead, row, name, "q").name, name)
            self.assertEqual(refusal(NoName, is_ahead, row, "q", name).name, "q")
            self.assertEqual(refusal(NoName, is_ahead, list(row), other="q", one=name).name, name)


class Turned(unittest.TestCase):
    def test_turned(self):
        self.assertEqual(turned(("a",)), ("a",))
        self.assertEqual(turned(("c", "a", "b")), ("b", "a", "c"))
        self.assertEqual(turned(row=["c", "a", "b", "zzzzzz"]), ("zzzzzz", "b", "a", "c"))

    def test_places(self):
        for row in ROWS:
            for handed in (row, list(row)):
                told = turned(handed)
                self.assertIs(is_row(told), True)
                self.assertEqual(len(told), len(row))
                for place, name in enumerate(row):
                    self.assertEqual(told[len(row) - 1 - place], name)
                self.assertEqual(turned(told), row)


class Falls(unittest.TestCase):
    def test_by_hand(self):
        self.assertEqual(falls(("a",), ("a",)), 0)
        self.assertEqual(falls(("a", "b"), ("a", "b")), 0)
        self.assertEqual(falls(("a", "b"), ("b", "a")), 1)
        self.assertEqual(falls(("a", "b", "c"), ("c", "b", "a")), 2)
        self.assertEqual(falls(("a", "b", "c"), ("c", "a", "b")), 1)

    def test_neighbours_of_other_not_of_one(self):
        self.assertEqual(falls(("a", "b", "c", "d"), ("b", "d", "a", "c")), 1)
        self.assertEqual(falls(("b", "d", "a", "c"), ("a", "b", "c", "d")), 2)

    def test_all_small_rows(self):
        for names in (("a",), ("a", "b"), ("b", "ab", "a"), ("d", "c", "b", "a")):
            for one, other in itertools.product(orders(names), repeat=2):
                wanted = 0
                for ahead, behind in zip(other, other[1:]):
                    wanted += one.index(behind) < one.index(ahead)
                self.assertEqual(kinds(falls(one, other)), ("int", wanted), (one, other))

    def test_far_rows(self):
        for row in shuffles(PEOPLE, 4, 2):
            self.assertEqual(falls(row, row), 0)
            self.assertEqual(falls(row, turned(row)), 23)
            self.assertEqual(falls(turned(row), row), 23)
            self.assertEqual(falls(row, row[12:] + row[:12]), 1)
            self.assertEqual(falls(row, row[::2] + row[1::2]), 1)
            self.assertEqual(falls(row[::2] + row[1::2], row), 11)

    def test_lists_and_names_of_arguments(self):
        one, other = ["b", "d", "a", "c"], ("a", "b", "c", "d")
        self.assertEqual(falls(one, other), 2)
        self.assertEqual(falls(tuple(one), list(other)), 2)
        self.assertEqual(falls(other=other, one=one), 2)
        self.assertEqual(falls(other=one, one=other), 1)

    def test_unlike(self):
        unlike = [
            (("a",), ("b",)), (("a", "b"), ("a", "c")), (("a", "b"), ("c", "b")), (("a", "b"), ("a",)),
            (("ab",), ("a", "b")), (("ab", "c"), ("a", "bc")), (("a", "b", "c"), ("c", "b", "d")),
            (tuple(PEOPLE), tuple(PEOPLE[1:])), (tuple(PEOPLE), tuple(PEOPLE[:-1]) + ("zz",)),
        ]
        for one, other in unlike:
            refusal(Unlike, falls, one, other)
            refusal(Unlike, falls, other, one)
            refusal(Unlike, falls, list(one), other)
            refusal(Unlike, falls, other=one, one=list(other))


class Everything(unittest.TestCase):
    def test_nothing_handed_in_is_changed(self):
        for row in ROWS:
            first, second = list(row), list(turned(row))
            is_row(first)
            place_of(first, row[0])
            is_ahead(first, row[0], row[-1])
            turned(first)
            falls(first, second)
            refusal(NoName, place_of, first, "nobody")
            refusal(Unlike, falls, first, second + ["nobody"])
            self.assertEqual(first, list(row))
            self.assertEqual(second, list(turned(row)))

    def test_a_change_behind_is_not_seen(self):
        row = ["a", "b", "c"]
        told = turned(row)
        row.reverse()
        row.append("d")
        self.assertEqual(told, ("c", "b", "a"))

    def test_the_same_question_is_told_the_same(self):
        for row in ROWS:
            for _ in range(2):
                self.assertEqual(kinds(turned(row)), kinds(turned(as_lists(row))))
                self.assertEqual(falls(row, turned(row)), len(row) - 1)


if __name__ == "__main__":
    unittest.main()
