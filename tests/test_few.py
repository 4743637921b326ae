import inspect
import itertools
import unittest

from standby import few as module
from standby.calling import called
from standby.calls import all_to, is_call, stay
from standby.errors import Unlike
from standby.few import fewest_calls, named, shows_few, word_of_few
from standby.rows import falls, turned
from standby.words import called_all, is_word

from samples import (
    BAD_NAMES, NOTHINGS, PEOPLE, SMALL, all_calls, as_lists, as_tuples, kinds, many_calls, many_words, orders, refusal,
    ring_call, shuffles, stays, unlike_people,
)

FEWS = (2, 3, 4, 5, 23, 24, 25, 1000, 10 ** 12)


def rows_apart():
    """Two and two ROWs of many people with all kinds of falls."""
    for many in (5, 9, 17, 24):
        names = PEOPLE[:many]
        first, second = shuffles(names, 2, many)
        yield first, second
        yield first, first
        for at in range(many):
            # The beginning is turned about: so many falls.
            yield tuple(names), tuple(names[:at + 1][::-1] + names[at + 1:])


def falling(one, other):
    """Those who with the one right behind them in other stand the other way about in one, rising."""
    return sorted(name for name, behind in zip(other, other[1:]) if one.index(behind) < one.index(name))


class Interface(unittest.TestCase):
    def test_names_of_arguments(self):
        for ask, arguments in (
            (named, ["call"]),
            (fewest_calls, ["one", "other", "few"]),
            (word_of_few, ["one", "other", "few"]),
            (shows_few, ["one", "other", "few", "many", "thing"]),
        ):
            self.assertEqual(list(inspect.signature(ask).parameters), arguments)
            self.assertEqual((ask.__module__, vars(module)[ask.__name__]), (module.__name__, ask))


class Named(unittest.TestCase):
    def test_all(self):
        calls = [call for names in SMALL for call in all_calls(names)]
        for call in calls + many_calls(PEOPLE, 9, 1) + many_words(PEOPLE, [9], 1)[0]:
            wanted = ("int", len({name for _, name in call}))
            self.assertEqual(kinds(named(call)), wanted)
            self.assertEqual(kinds(named(call=as_lists(call))), wanted)

    def test_by_hand(self):
        self.assertEqual(named((("a", "a"),)), 1)
        self.assertEqual(named(stay(PEOPLE)), 24)
        self.assertEqual(named(all_to(PEOPLE, "m")), 1)
        self.assertEqual(named(ring_call(PEOPLE)), 24)


class FewestCalls(unittest.TestCase):
    def test_row_by_row(self):
        """Promise (g) of [1]."""
        for names in SMALL:
            rows = orders(names)
            for few in (2, 3, 4, 5):
                calls = [call for call in all_calls(names) if len({name for _, name in call}) <= few]
                near = {row: {called(row, call) for call in calls} for row in rows}
                for one in rows if len(names) < 4 else rows[::4]:
                    self.check_from(one, few, near)

    def check_from(self, one, few, near):
        many, reached, last = 0, {one}, {one}
        while last:
            for other in last:
                self.assertEqual(kinds(fewest_calls(one, other, few)), ("int", many))
                self.check_word(one, other, few)
                self.assertIs(many == 0 or shows_few(one, other, few, many, falling(one, other)), True)
            last = {row for before in last for row in near[before]} - reached
            reached |= last
            many += 1
        self.assertEqual(reached, set(near))

    def check_word(self, one, other, few):
        word = word_of_few(one, other, few)
        self.assertIs(is_word(word), True)
        self.assertEqual(called_all(one, word), other)
        self.assertEqual(len(word), fewest_calls(one, other, few))
        for call in word:
            self.assertIs(is_call(call), True)
            self.assertLessEqual(named(call), few)
            self.assertEqual([who for who, _ in call], sorted(one))

    def test_many_people(self):
        for (one, other), few in itertools.product(rows_apart(), FEWS):
            many = 0
            while few ** many < falls(one, other) + 1:
                many += 1
            self.assertEqual(kinds(fewest_calls(one, other, few)), ("int", many))
            self.check_word(one, other, few)
            self.assertIs(many == 0 or shows_few(one, other, few, many, falling(one, other)), True)
            self.assertIs(shows_few(one, other, few, many + 1, falling(one, other)), False)

    def test_by_hand(self):
        row = tuple(PEOPLE)
        self.assertEqual([fewest_calls(row, turned(row), few) for few in (2, 3, 4, 5, 23, 24, 25)],
                         [5, 3, 3, 2, 2, 1, 1])
        self.assertEqual(fewest_calls(row[:16], turned(row[:16]), 2), 4)
        self.assertEqual(fewest_calls(row[:17], turned(row[:17]), 2), 5)
        for few in FEWS:
            self.assertEqual(fewest_calls(("a",), ("a",), few), 0)
            self.assertEqual(word_of_few(("a",), ("a",), few), [])
            self.assertEqual(fewest_calls(row, row, few), 0)
            self.assertEqual(word_of_few(row, row, few), [])
            self.assertEqual(fewest_calls(("a", "b"), ("b", "a"), few), 1)
            self.assertEqual(word_of_few(("a", "b"), ("b", "a"), few), [(("a", "b"), ("b", "a"))])

    def test_one_way_is_not_the_other(self):
        one, other = ("a", "b", "c", "d"), ("b", "d", "a", "c")
        self.assertEqual((falls(one, other), falls(other, one)), (1, 2))
        self.assertEqual(fewest_calls(one, other, 2), 1)
        self.assertEqual(fewest_calls(other, one, 2), 2)


class ShowsFew(unittest.TestCase):
    ONE = ("a", "b", "c", "d", "e", "f", "g", "h", "i")
    OTHER = ("d", "a", "b", "f", "e", "c", "i", "h", "g")
    # With whom is right behind them the other way about in ONE.
    FALLING = ["d", "e", "f", "h", "i"]

    def shows(self, thing, few=2, many=1):
        return shows_few(self.ONE, self.OTHER, few, many, thing)

    def test_all_lists(self):
        self.assertEqual(falling(self.ONE, self.OTHER), self.FALLING)
        for size in range(len(self.FALLING) + 1):
            for thing in itertools.combinations(self.FALLING, size):
                for few, many in itertools.product((2, 3, 4, 5, 6, 10 ** 12), (1, 2, 3, 4, 1000)):
                    self.assertIs(self.shows(list(thing), few, many), few ** (many - 1) <= size, (thing, few, many))

    def test_all_small_rows(self):
        for names in SMALL:
            things = [list(thing) for size in range(len(names) + 1) for thing in itertools.permutations(names, size)]
            for one, other in itertools.product(orders(names)[:6], orders(names)[::3]):
                own = falling(one, other)
                for thing, many in itertools.product(things, (1, 2)):
                    wanted = thing == sorted(thing) and set(thing) <= set(own) and 2 ** (many - 1) <= len(thing)
                    self.assertIs(shows_few(one, other, 2, many, thing), wanted, (one, other, thing))

    def test_as_many_as_are_wanted_one_less_and_one_more(self):
        row = tuple(PEOPLE)
        thing = PEOPLE[1:]
        self.assertEqual(len(thing), 23)
        for few, wanted in ((22, True), (23, True), (24, False)):
            self.assertIs(shows_few(row, turned(row), few, 2, thing), wanted)
        for size, wanted in ((7, False), (8, True), (9, True)):
            self.assertIs(shows_few(row, turned(row), 2, 4, thing[:size]), wanted)
        for size, wanted in ((8, False), (9, True), (10, True)):
            self.assertIs(shows_few(row, turned(row), 3, 3, thing[-size:]), wanted)

    def test_many_1(self):
        for few in FEWS:
            self.assertIs(self.shows([], few, 1), False)
            for name in self.ONE:
                self.assertIs(self.shows([name], few, 1), name in self.FALLING)
        self.assertIs(shows_few(("a",), ("a",), 2, 1, []), False)
        self.assertIs(shows_few(("a",), ("a",), 2, 1, ["a"]), False)

    def test_the_last_one_of_other(self):
        self.assertIs(self.shows(["g"]), False)
        self.assertIs(self.shows(["d", "e", "f", "g", "h"]), False)
        self.assertIs(self.shows(["d", "e", "f", "h"]), True)

    def test_things_of_any_kind(self):
        for thing in NOTHINGS:
            self.assertIs(self.shows(thing), False, thing)
            self.assertIs(self.shows([thing]), False, thing)
            self.assertIs(self.shows(["d", thing]), False, thing)
            self.assertIs(self.shows([thing, "i"]), False, thing)
            self.assertIs(shows_few(("b", "a"), ("b", "a"), 2, 1, thing), False, thing)
        for name in BAD_NAMES + ["j", "dd", "zzzzzz"]:
            self.assertIs(self.shows([name]), False, name)
            self.assertIs(self.shows(sorted(["d", "i", name])), False, name)
        for thing in (("d",), ("d", "e"), "d", "de", "defhi", {"d": "e"}, [["d"]], [("d",)], ["d", ["e"]], [["d", "e"]],
                      ["d", "d"], ["e", "d"], ["d", "e", "e"], ["i", "h", "f", "e", "d"], ["d", "f", "e"], ["de"],
                      ["d", "e", None], [True, "d"], ["d"] * 1000, [0], [1]):
            self.assertIs(self.shows(thing), False, thing)
        self.assertIs(self.shows(["d", "e"]), True)

    def test_unlike_whatever_thing_is(self):
        for names in (PEOPLE[:1], PEOPLE[:3], PEOPLE):
            for others, thing in itertools.product(unlike_people(names), [None, [], ["a"], (), True, 7, "a", [[]]]):
                for many in (1, 2, 1000):
                    refusal(Unlike, shows_few, tuple(names), tuple(others), 2, many, thing)
                    refusal(Unlike, shows_few, others, names, 2, many, thing)


class Everything(unittest.TestCase):
    def test_unlike(self):
        for names in (PEOPLE[:1], PEOPLE[:2], PEOPLE):
            for others, few in itertools.product(unlike_people(names), (2, 24)):
                for ask in (fewest_calls, word_of_few):
                    refusal(Unlike, ask, tuple(names), tuple(others), few)
                    refusal(Unlike, ask, few=few, other=names, one=others)

    def test_lists_for_tuples_and_names_of_arguments(self):
        for one, other in itertools.islice(rows_apart(), 0, None, 5):
            for few in (2, 5, 24):
                for ask in (fewest_calls, word_of_few):
                    wanted = kinds(ask(one, other, few))
                    self.assertEqual(kinds(ask(list(one), list(other), few)), wanted)
                    self.assertEqual(kinds(ask(few=few, other=as_tuples(other), one=list(one))), wanted)
                thing = falling(one, other)
                wanted = shows_few(one, other, few, 2, thing)
                self.assertIs(shows_few(thing=thing, many=2, few=few, other=list(other), one=one), wanted)
                self.assertIs(shows_few(list(one), other, few, many=2, thing=thing), wanted)

    def test_nothing_handed_in_is_changed(self):
        one, other = shuffles(PEOPLE, 2, 14)
        mine, theirs, thing = list(one), list(other), falling(one, other)
        wanted = falling(one, other)
        word = word_of_few(mine, theirs, 3)
        fewest_calls(mine, theirs, 3)
        self.assertIs(shows_few(mine, theirs, 2, 3, thing), True)
        call = as_lists(word[0])
        named(call)
        self.assertEqual((mine, theirs, thing, call), (list(one), list(other), wanted, as_lists(word[0])))
        mine.reverse()
        theirs.clear()
        self.assertEqual(word, word_of_few(one, other, 3))

    def test_told_words_are_the_askers_own(self):
        one, other = shuffles(PEOPLE, 2, 15)
        wanted = list(word_of_few(one, other, 2))
        told = word_of_few(one, other, 2)
        told.pop()
        told.append(stays("a"))
        self.assertEqual(word_of_few(one, other, 2), wanted)
        self.assertIsNot(word_of_few(one, other, 2), word_of_few(one, other, 2))


if __name__ == "__main__":
    unittest.main()
