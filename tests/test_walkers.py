import inspect
import itertools
import unittest

from standby import walkers
from standby.errors import Unlike
from standby.rows import is_ahead
from standby.walkers import pair_of, shows_ahead, walks
from standby.words import called_all

from samples import (
    NOTHINGS, PEOPLE, all_calls, as_lists, as_tuples, kinds, many_words, orders, refusal, shuffles, stays,
    unlike_people, unlike_words,
)

WORDS = [(PEOPLE[:many], many_words(PEOPLE[:many], [0, 1, 2, 3, 7, 40], many)) for many in (2, 3, 4, 9, 24)]


def walked(word, one, other):
    """The pairs by the words of [7]."""
    pairs = [(one, other)]
    for call in word[::-1]:
        told = dict(call)
        mine, theirs = told[pairs[-1][0]], told[pairs[-1][1]]
        pairs.append(pairs[-1] if mine == theirs else (mine, theirs))
    return pairs


def some_twos(names):
    """Some ordered two of these people, all where they are few."""
    return list(itertools.permutations(names, 2))[::1 if len(names) < 10 else 23]


class Interface(unittest.TestCase):
    def test_names_of_arguments(self):
        wanted = {
            "walks": ["word", "one", "other"],
            "pair_of": ["word", "one", "other"],
            "shows_ahead": ["row", "word", "one", "other", "thing"],
        }
        for name, arguments in wanted.items():
            ask = getattr(walkers, name)
            self.assertEqual(list(inspect.signature(ask).parameters), arguments)
            self.assertEqual((ask.__module__, ask.__name__), ("standby.walkers", name))


class Walks(unittest.TestCase):
    def test_by_hand(self):
        word = [
            (("a", "b"), ("b", "c"), ("c", "c")),
            (("a", "c"), ("b", "a"), ("c", "b")),
            (("a", "a"), ("b", "a"), ("c", "c")),
        ]
        # The first two would meet at a's place, so both stay; later the two at a and c would not.
        self.assertEqual(walks(word, "a", "b"), [("a", "b"), ("a", "b"), ("c", "a"), ("c", "b")])
        self.assertEqual(walks(word, "b", "c"), [("b", "c"), ("a", "c"), ("c", "b"), ("c", "b")])
        self.assertEqual(pair_of(word, "b", "c"), ("c", "b"))

    def test_all_words(self):
        for names, some in WORDS:
            for word in some:
                for one, other in some_twos(names):
                    told = walks(word, one, other)
                    self.assertEqual(kinds(told), kinds(walked(word, one, other)))
                    self.assertEqual(len(told), len(word) + 1)
                    self.assertEqual(kinds(pair_of(word, one, other)), kinds(told[-1]))

    def test_no_call(self):
        for bare in ([], ()):
            for one, other in (("a", "b"), ("b", "a"), ("zzzzzz", "q")):
                self.assertEqual(kinds(walks(bare, one, other)), kinds([(one, other)]))
                self.assertEqual(kinds(pair_of(bare, one, other)), kinds((one, other)))

    def test_each_is_told_their_own(self):
        self.assertEqual(walks([stays("abc")] * 3, "c", "a"), [("c", "a")] * 4)

    def test_all_are_told_one(self):
        for name in "abc":
            call = tuple((who, name) for who in "abc")
            for one, other in itertools.permutations("abc", 2):
                self.assertEqual(walks([call] * 2, one, other), [(one, other)] * 3)

    def test_two_exchange(self):
        call = (("a", "b"), ("b", "a"), ("c", "c"))
        self.assertEqual(walks([call] * 3, "a", "b"), [("a", "b"), ("b", "a"), ("a", "b"), ("b", "a")])
        self.assertEqual(walks([call] * 2, "c", "b"), [("c", "b"), ("c", "a"), ("c", "b")])

    def test_two_would_meet(self):
        call = (("a", "b"), ("b", "b"), ("c", "b"))
        turn = (("a", "b"), ("b", "c"), ("c", "a"))
        self.assertEqual(walks([turn, call], "a", "c"), [("a", "c"), ("a", "c"), ("b", "a")])
        self.assertEqual(walks([call, turn], "a", "c"), [("a", "c"), ("b", "a"), ("b", "a")])

    def test_the_last_call_is_walked_first(self):
        first = (("a", "c"), ("b", "b"), ("c", "c"))
        last = (("a", "b"), ("b", "a"), ("c", "c"))
        self.assertEqual(walks([first, last], "a", "b"), [("a", "b"), ("b", "a"), ("b", "c")])

    def test_who_is_ahead_hangs_on_one_pair(self):
        """Promise (a) of [1]."""
        for names in (("a", "b"), ("c", "b", "a"), ("a", "ab", "b", "ba")):
            words = many_words(names, [0, 1, 2, 3, 5, 9] * 3, 5)
            if len(names) < 4:
                words += [[call] for call in all_calls(names)]
            for word, row in itertools.product(words, orders(names)):
                behind = called_all(row, word)
                for one, other in itertools.permutations(names, 2):
                    first, second = pair_of(word, one, other)
                    self.assertIs(is_ahead(row, first, second), is_ahead(behind, one, other), (row, word))

    def test_who_is_ahead_of_many(self):
        for word in many_words(PEOPLE, [1, 5, 40], 6):
            pairs = {two: pair_of(word, *two) for two in some_twos(PEOPLE)}
            for row in shuffles(PEOPLE, 4, 7):
                behind = called_all(row, word)
                for two, pair in pairs.items():
                    self.assertIs(is_ahead(row, *pair), is_ahead(behind, *two))

    def test_lists_tuples_and_names_of_arguments(self):
        for names, some in WORDS:
            one, other = names[-1], names[0]
            for word in some:
                for ask in (walks, pair_of):
                    wanted = kinds(ask(word, one, other))
                    for handed in (as_lists(word), as_tuples(word), tuple(as_lists(word))):
                        self.assertEqual(kinds(ask(handed, one, other)), wanted)
                        self.assertEqual(kinds(ask(other=other, word=handed, one=one)), wanted)

    def test_calls_of_unlike_people(self):
        for word in ([stays("ab"), stays("abc")], [stays("abc"), stays("ab")], [stays("ab")] * 39 + [stays("abd")]):
            refusal(Unlike, walks, word, "a", "b")
            refusal(Unlike, pair_of, word, "a", "b")

    def test_nothing_is_changed_and_told_lists_are_own(self):
        for names, some in WORDS:
            for word in some:
                handed = as_lists(word)
                told = walks(handed, names[0], names[1])
                pair_of(handed, names[0], names[1])
                self.assertEqual(handed, as_lists(word))
                before = list(told)
                told.reverse()
                told.append(None)
                self.assertEqual(walks(handed, names[0], names[1]), before)


class ShowsAhead(unittest.TestCase):
    def test_just_where_one_is_ahead(self):
        for names, some in WORDS:
            for word in some:
                for row in shuffles(names, 2, 8):
                    behind = called_all(row, word)
                    for one, other in some_twos(names):
                        pairs = walked(word, one, other)
                        wanted = is_ahead(behind, one, other)
                        self.assertIs(shows_ahead(row, word, one, other, pairs), wanted)
                        if len(names) > 2 or word:
                            self.assertIs(shows_ahead(row, word, one, other, pairs[:-1]), False)

    def test_all_small_rows(self):
        for names in (("b", "a"), ("a", "c", "b")):
            for call, row in itertools.product(all_calls(names), orders(names)):
                for one, other in itertools.permutations(names, 2):
                    thing = walked([call], one, other)
                    wanted = is_ahead(called_all(row, [call]), one, other)
                    self.assertIs(shows_ahead(row, [call], one, other, thing), wanted)

    def test_no_call(self):
        self.assertIs(shows_ahead(("b", "a"), [], "b", "a", [("b", "a")]), True)
        self.assertIs(shows_ahead(("b", "a"), [], "a", "b", [("a", "b")]), False)
        self.assertIs(shows_ahead(("b", "a"), [], "b", "a", []), False)
        self.assertIs(shows_ahead(("b", "a"), [], "b", "a", [("b", "a")] * 2), False)
        self.assertIs(shows_ahead(("b", "a"), [], "x", "y", [("x", "y")]), False)
        self.assertIs(shows_ahead(("b", "a"), [], "b", "y", [("b", "y")]), False)

    def right_one(self):
        """A row, a word and two people of whom one is ahead behind it, and the pairs that show it."""
        for names, some in WORDS:
            for word in some:
                behind = called_all(names, word)
                yield names, word, behind[0], behind[-1], walked(word, behind[0], behind[-1])

    def test_other_things(self):
        for row, word, one, other, pairs in self.right_one():
            self.assertIs(shows_ahead(row, word, one, other, pairs), True)
            turned = [pair[::-1] for pair in pairs]
            for thing in (
                tuple(pairs), as_lists(pairs), as_tuples(pairs), (pairs,), [pairs], pairs[-1], turned,
                pairs + [pairs[-1]], [pairs[0]] + pairs, pairs[1:], pairs[:-1], [], (),
                pairs[:-1] + [list(pairs[-1])], [list(pairs[0])] + pairs[1:], pairs[:-1] + [turned[-1]],
                [turned[0]] + pairs[1:], pairs[:-1] + [pairs[-1] + ("a",)], pairs[:-1] + [pairs[-1][:1]],
                pairs[:-1] + [None], pairs[:-1] + [pairs[-1][0]],
                [[pair] for pair in pairs], [(pair,) for pair in pairs],
            ):
                self.assertIs(shows_ahead(row, word, one, other, thing), False, repr(thing)[:200])
            if pairs != pairs[::-1]:
                self.assertIs(shows_ahead(row, word, one, other, pairs[::-1]), False)

    def test_things_of_any_kind(self):
        for row, word, one, other, pairs in itertools.islice(self.right_one(), 8):
            for thing in NOTHINGS:
                self.assertIs(shows_ahead(row, word, one, other, thing), thing == pairs, repr(thing)[:80])
                self.assertIs(shows_ahead(row, word, one, other, [thing]), False, repr(thing)[:80])
                self.assertIs(shows_ahead(row, word, one, other, pairs[:-1] + [thing]), False, repr(thing)[:80])
                last = (pairs[-1][0], thing)
                told = shows_ahead(row, word, one, other, pairs[:-1] + [last])
                self.assertIs(told, last == pairs[-1], repr(thing)[:80])

    def test_lists_tuples_and_names_of_arguments(self):
        for row, word, one, other, pairs in self.right_one():
            for handed in (as_lists(word), as_tuples(word)):
                self.assertIs(shows_ahead(tuple(row), handed, one, other, pairs), True)
                self.assertIs(shows_ahead(list(row), handed, one, other, as_lists(pairs)), False)
                self.assertIs(shows_ahead(thing=pairs, other=other, one=one, word=handed, row=row), True)

    def test_unlike_whatever_thing_is(self):
        for names in (PEOPLE[:2], PEOPLE[:4], PEOPLE):
            one, other = names[0], names[1]
            for word in unlike_words(names):
                for thing in (None, True, [], [(one, other)] * (len(word) + 1), [[one, other]], "a", 7, (), [None]):
                    refusal(Unlike, shows_ahead, names, word, one, other, thing)
                    refusal(Unlike, shows_ahead, tuple(names), as_lists(word), one, other, thing)
            for others in unlike_people(names):
                for thing in (None, [(one, other)] * 2):
                    refusal(Unlike, shows_ahead, thing=thing, row=others, one=one, other=other, word=[stays(names)])

    def test_nothing_is_changed(self):
        for row, word, one, other, pairs in self.right_one():
            handed, told, thing = list(row), as_lists(word), list(pairs)
            shows_ahead(handed, told, one, other, thing)
            self.assertEqual((handed, told, thing), (list(row), as_lists(word), pairs))


if __name__ == "__main__":
    unittest.main()
