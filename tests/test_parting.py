import inspect
import itertools
import unittest

from standby import parting as module
from standby.errors import Unlike
from standby.parting import alike, parting, shows_parting
from standby.rows import is_ahead, is_row
from standby.words import called_all

from samples import (
    BAD_NAMES, NOTHINGS, PEOPLE, SMALL, all_calls, as_lists, as_tuples, kinds, many_words, orders, refusal, shuffles,
    stays, unlike_people, unlike_words,
)

SWAP = (("a", "b"), ("b", "a"))


def parts(row, one, other, first, second):
    """Whether a row and two people part two words, gone through call by call."""
    return is_ahead(called_all(row, one), first, second) and not is_ahead(called_all(row, other), first, second)


def some_words(names):
    """Words of these people, of some kinds, few enough that all two can be tried."""
    words = [[], [stays(names)], [stays(names)] * 40] + many_words(names, [1, 1, 1, 2, 2, 3, 5, 9], 3)
    return words + [words[-1] + words[-2], words[3] * 2, words[3] * 3]


class Interface(unittest.TestCase):
    def test_names_of_arguments(self):
        for ask, arguments in (
            (alike, ["names", "one", "other"]),
            (parting, ["names", "one", "other"]),
            (shows_parting, ["names", "one", "other", "thing"]),
        ):
            self.assertEqual(list(inspect.signature(ask).parameters), arguments)
            self.assertEqual(ask.__module__, module.__name__)


class AlikeAndParting(unittest.TestCase):
    def check(self, names, one, other, same):
        self.assertIs(alike(names, one, other), same, (one, other))
        told = parting(names, one, other)
        if same:
            self.assertIsNone(told, (one, other))
            return
        self.assertIsInstance(told, tuple)
        row, first, second = told
        self.assertIs(is_row(row), True)
        self.assertEqual(sorted(row), sorted(names))
        self.assertIs(parts(row, one, other, first, second), True)
        self.assertIs(shows_parting(names, one, other, told), True)

    def test_all_small_rows(self):
        for names in SMALL:
            words = some_words(names)
            behind = [[called_all(row, word) for row in orders(names)] for word in words]
            for (one, mine), (other, theirs) in itertools.product(zip(words, behind), repeat=2):
                self.check(names, one, other, mine == theirs)

    def test_all_calls_of_three(self):
        names = ("b", "a", "c")
        words = [[call] for call in all_calls(names)]
        behind = [[called_all(row, word) for row in orders(names)] for word in words]
        for (one, mine), (other, theirs) in itertools.product(zip(words, behind), repeat=2):
            self.check(names, one, other, mine == theirs)

    def test_many_people(self):
        for names in (PEOPLE[:9], PEOPLE):
            words = many_words(names, [1, 2, 3, 40], 5)
            for one, other in itertools.permutations(words, 2):
                # Words of all kinds part some of these rows, where they do not do the same.
                rows = shuffles(names, 6, 6)
                same = all(called_all(row, one) == called_all(row, other) for row in rows)
                self.check(names, one, other, same)
            for word in words:
                self.check(names, word, word + [stays(names)], True)
                self.check(names, [stays(names)] * 3 + word, as_tuples(word), True)

    def test_written_otherwise(self):
        self.check(["a", "b"], [SWAP], [SWAP] * 3, True)
        self.check(["a", "b"], [SWAP] * 2, [], True)
        self.check(["a", "b"], [SWAP], [], False)
        self.check(["a", "b"], [(("a", "b"), ("b", "b"))], [(("a", "a"), ("b", "a"))], True)
        self.check(["a", "b", "c"], [tuple((who, "c") for who in "abc")], [], True)

    def test_one_pair_in_many(self):
        for one, other in itertools.combinations(PEOPLE[::3], 2):
            told = dict(stays(PEOPLE))
            told[one], told[other] = other, one
            self.check(PEOPLE, [tuple(sorted(told.items()))], [], False)
            self.check(PEOPLE, [], [tuple(sorted(told.items()))], False)

    def test_one_person(self):
        for one, other in itertools.product(([], [stays("a")], [stays("a")] * 3), repeat=2):
            self.check(["a"], one, other, True)

    def test_lists_tuples_and_names_of_arguments(self):
        for names in SMALL:
            words = some_words(names)
            for one, other in zip(words, words[::-1]):
                for ask in (alike, parting):
                    wanted = kinds(ask(names, one, other))
                    self.assertEqual(kinds(ask(list(names), as_lists(one), as_tuples(other))), wanted)
                    self.assertEqual(kinds(ask(other=as_lists(other), names=list(names), one=tuple(one))), wanted)

    def test_unlike(self):
        for names in (PEOPLE[:1], PEOPLE[:3], PEOPLE):
            for word in unlike_words(names):
                for ask in (alike, parting):
                    refusal(Unlike, ask, names, word, [])
                    refusal(Unlike, ask, names, [], word)
                    refusal(Unlike, ask, names, word, word)
                    refusal(Unlike, ask, other=as_lists(word), one=[stays(names)], names=tuple(names))
            for others in unlike_people(names):
                for ask in (alike, parting):
                    refusal(Unlike, ask, others, [stays(names)], [stays(names)])

    def test_nothing_handed_in_is_changed(self):
        names = ["c", "a", "b"]
        for one, other in itertools.combinations(some_words(names), 2):
            handed, first, second = list(names), as_lists(one), as_lists(other)
            alike(handed, first, second)
            told = parting(handed, first, second)
            shows_parting(handed, first, second, told)
            self.assertEqual((handed, first, second), (names, as_lists(one), as_lists(other)))


class ShowsParting(unittest.TestCase):
    def test_all_small_rows(self):
        for names in SMALL[1:]:
            words = some_words(names)
            for one, other in list(itertools.permutations(words, 2))[::3]:
                for row in orders(names)[::2]:
                    for first, second in itertools.product(names, repeat=2):
                        wanted = parts(row, one, other, first, second)
                        self.assertIs(shows_parting(names, one, other, (row, first, second)), wanted)

    def test_words_that_do_the_same(self):
        for names in SMALL:
            for word in some_words(names):
                for row in orders(names):
                    thing = (row, row[0], row[-1])
                    self.assertIs(shows_parting(names, word, word + [stays(names)], thing), False)

    def right_ones(self):
        for names in SMALL[1:] + (PEOPLE,):
            for one, other in zip(many_words(names, [1, 2, 5], 7), many_words(names, [2, 3, 40], 8)):
                thing = parting(names, one, other)
                if thing is not None:
                    yield names, one, other, thing

    def test_other_things(self):
        self.assertGreater(len(list(self.right_ones())), 5)
        for names, one, other, thing in self.right_ones():
            row, first, second = thing
            for wrong in (
                list(thing), as_lists(thing), (list(row), first, second), [row, first, second], (row, second, first),
                (row, first), (row, first, second, first), (row, first, second, None), (first, second), (row,), row,
                (row, (first, second)), ((row, first), second), (first, second, row), (row, first, first),
                (row, second, second), (row, [first], second), (row, first, (second,)), (row, (first,), second),
                (row[:-1], first, second), (row[1:], first, second), (row + ("qq",), first, second),
                (row + (row[0],), first, second), (row[:-1] + ("qq",), first, second), ((row,), first, second),
                (row, first, "qq"), (row, "qq", second), (row, "qq", "qq"), (row, "qq", "qr"),
                (" ".join(row), first, second), (thing,), [thing], (row, None, second), (row, first, None),
                (row, 0, 1), (row, True, False),
                (None, first, second), ((), first, second), ("", first, second), (row, "", ""), (row, row, row),
            ):
                self.assertIs(shows_parting(names, one, other, wrong), False, repr(wrong)[:200])
            self.assertIs(shows_parting(names, other, one, thing), False)
            self.assertIs(shows_parting(names, one, one, thing), False)

    def test_things_of_any_kind(self):
        for names, one, other, thing in self.right_ones():
            row, first, second = thing
            for wrong in NOTHINGS + BAD_NAMES:
                self.assertIs(shows_parting(names, one, other, wrong), False, repr(wrong)[:80])
                self.assertIs(shows_parting(names, one, other, (wrong, first, second)), False, repr(wrong)[:80])
                for named in ((row, wrong, second), (row, first, wrong)):
                    in_row = named[1] in row and named[2] in row
                    wanted = in_row and parts(row, one, other, named[1], named[2])
                    self.assertIs(shows_parting(names, one, other, named), wanted, repr(wrong)[:80])
                self.assertIs(shows_parting(names, one, other, (wrong, wrong, wrong)), False, repr(wrong)[:80])

    def test_lists_tuples_and_names_of_arguments(self):
        for names, one, other, thing in self.right_ones():
            self.assertIs(shows_parting(list(names), as_lists(one), as_tuples(other), thing), True)
            self.assertIs(shows_parting(thing=thing, other=as_lists(other), one=one, names=tuple(names)), True)

    def test_unlike_whatever_thing_is(self):
        for names in (PEOPLE[:1], PEOPLE[:3], PEOPLE):
            for word in unlike_words(names):
                for thing in (None, True, 7, "a", (), [], (tuple(names), names[0], names[-1]), (("qq",), "qq", "qq")):
                    refusal(Unlike, shows_parting, names, word, [], thing)
                    refusal(Unlike, shows_parting, names, [], word, thing)
                    refusal(Unlike, shows_parting, thing=thing, names=names, other=as_lists(word), one=word)
            for others in unlike_people(names):
                for thing in (None, (tuple(names), names[0], names[-1]), (tuple(others), others[0], others[-1])):
                    refusal(Unlike, shows_parting, others, [stays(names)], [], thing)


if __name__ == "__main__":
    unittest.main()
