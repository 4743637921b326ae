import inspect
import itertools
import random
import unittest

from standby import words
from standby.calling import called
from standby.errors import Unlike
from standby.words import called_all, is_word, renamed, rows_behind

from samples import (
    BAD_NAMES, NOTHINGS, PEOPLE, all_calls, as_lists, as_tuples, kinds, many_words, orders, refusal, shuffles, stays,
    unlike_people, unlike_words,
)

LENGTHS = [0, 1, 2, 3, 7, 40]
# Groups of people, each with words of them.
WORDS = [(PEOPLE[:many], many_words(PEOPLE[:many], LENGTHS, many)) for many in (1, 2, 3, 4, 9, 24)]


class Interface(unittest.TestCase):
    def test_names_of_arguments(self):
        wanted = {
            "is_word": ["thing"],
            "called_all": ["row", "word"],
            "rows_behind": ["row", "word"],
            "renamed": ["word", "names"],
        }
        for name, arguments in wanted.items():
            ask = getattr(words, name)
            self.assertEqual(list(inspect.signature(ask).parameters), arguments)
            self.assertEqual((ask.__module__, ask.__name__), ("standby.words", name))


class IsWord(unittest.TestCase):
    def test_words(self):
        for _, some in WORDS:
            for word in some:
                self.assertIs(is_word(word), True)
                self.assertIs(is_word(thing=word), True)

    def test_bare_list(self):
        self.assertIs(is_word([]), True)
        self.assertIs(is_word(()), False)

    def test_all_small_words(self):
        calls = all_calls(("a", "b"))
        for many in range(4):
            for word in itertools.product(calls, repeat=many):
                self.assertIs(is_word(list(word)), True)
                self.assertIs(is_word(word), False)

    def test_lists_and_tuples_the_other_way_about(self):
        for _, some in WORDS:
            for word in some[1:]:
                call = word[-1]
                for thing in (
                    tuple(word), as_lists(word), as_tuples(word), (word,), [word], [tuple(word)], call,
                    word[:-1] + [list(call)], word[:-1] + [as_lists(call)], [list(word[0])] + word[1:],
                    word[:-1] + [call[:-1] + (list(call[-1]),)], word[:-1] + [(list(call[0]),) + call[1:]],
                ):
                    self.assertIs(is_word(thing), False, repr(thing)[:200])

    def test_a_pair_more_or_less_or_the_other_way_about(self):
        call = (("a", "b"), ("b", "c"), ("c", "c"))
        good = [call, call]
        self.assertIs(is_word(good), True)
        for at in (0, 1, 2):
            for other in (
                call[:at] + call[at + 1:], call[:at] + (call[at],) + call[at:], call[:at] + (("bb", "a"),) + call[at:],
                call + (("d", "a"),), call + (("d", "d"),), call[::-1], (call[1], call[0], call[2]),
                call[:at] + ((call[at][0],),) + call[at + 1:], call[:at] + (call[at] + ("a",),) + call[at + 1:],
                call[:at] + ((call[at][0], "d"),) + call[at + 1:], (("c", "c"), ("b", "c"), ("a", "b")),
            ):
                self.assertIs(is_word([call, other]), False, other)
                self.assertIs(is_word([other, call]), False, other)
                self.assertIs(is_word([call, other, call]), False, other)
        self.assertIs(is_word([(("b", "a"), ("a", "b"))]), False)
        self.assertIs(is_word([(("a", "b"),)]), False)

    def test_calls_of_unlike_people(self):
        for names in (PEOPLE[:1], PEOPLE[:3], PEOPLE):
            for others in unlike_people(names):
                one, other = stays(names), stays(others)
                self.assertIs(is_word([one]), True)
                self.assertIs(is_word([other, other]), True)
                for thing in ([one, other], [other, one], [one, one, other], [one, other, one], [other, one, one]):
                    self.assertIs(is_word(thing), False, thing)
        many = [stays(["a", "b"])] * 40
        self.assertIs(is_word(many + [stays(["a", "c"])]), False)

    def test_things_of_any_kind(self):
        for thing in NOTHINGS:
            self.assertIs(is_word(thing), thing == [], repr(thing)[:80])
            self.assertIs(is_word([thing]), False, repr(thing)[:80])
            self.assertIs(is_word([stays("ab"), thing]), False, repr(thing)[:80])
            self.assertIs(is_word([thing, stays("ab")]), False, repr(thing)[:80])
            self.assertIs(is_word([(thing,)]), False, repr(thing)[:80])
            self.assertIs(is_word([((thing, "a"),)]), thing == "a", repr(thing)[:80])
            self.assertIs(is_word([(("a", thing),)]), thing == "a", repr(thing)[:80])

    def test_bad_names(self):
        for bad in BAD_NAMES:
            self.assertIs(is_word([((bad, bad),)]), False, bad)
            self.assertIs(is_word([tuple(sorted([("m", "m"), (bad, "m")]))]), False, bad)

    def test_whatever_size(self):
        call = stays(["".join(letters) for letters in itertools.product("abcdefghij", repeat=3)])
        self.assertIs(is_word([call] * 50), True)
        self.assertIs(is_word([call] * 50 + [call[1:]]), False)
        self.assertIs(is_word([stays("a")] * 20000), True)
        self.assertIs(is_word([stays("a")] * 20000 + [stays("b")]), False)
        self.assertIs(is_word([[]] * 100000), False)

    def test_thing_is_not_changed(self):
        for thing in ([stays("ab"), stays("ab")], [["a"], [["a", "a"]]]):
            before = as_lists(thing)
            is_word(thing)
            self.assertEqual(as_lists(thing), before)


class CalledAll(unittest.TestCase):
    def test_call_by_call(self):
        for names, some in WORDS:
            for row, word in itertools.product(shuffles(names, 3, 1), some):
                behind = [row]
                for call in word:
                    behind.append(called(behind[-1], call))
                self.assertEqual(kinds(called_all(row, word)), kinds(behind[-1]))
                self.assertEqual(kinds(rows_behind(row, word)), kinds(behind))

    def test_by_hand(self):
        row = ("c", "a", "b")
        word = [(("a", "c"), ("b", "b"), ("c", "b")), (("a", "a"), ("b", "a"), ("c", "c"))]
        self.assertEqual(rows_behind(row, word), [("c", "a", "b"), ("a", "c", "b"), ("a", "b", "c")])
        self.assertEqual(called_all(row, word), ("a", "b", "c"))
        self.assertEqual(rows_behind(row, word[::-1]), [("c", "a", "b"), ("c", "a", "b"), ("a", "c", "b")])

    def test_all_small_words(self):
        calls = all_calls(("a", "b"))
        for row, one, other in itertools.product(orders(("a", "b")), calls, calls):
            self.assertEqual(called_all(row, [one, other]), called(called(row, one), other))

    def test_no_call(self):
        for names in (PEOPLE[:1], PEOPLE):
            for row in shuffles(names, 2, 2):
                for bare in ([], ()):
                    self.assertEqual(kinds(called_all(list(row), bare)), kinds(row))
                    self.assertEqual(kinds(rows_behind(list(row), bare)), kinds([row]))

    def test_lists_tuples_and_names_of_arguments(self):
        for names, some in WORDS:
            row = tuple(names[::-1])
            for word in some:
                for ask in (called_all, rows_behind):
                    wanted = kinds(ask(row, word))
                    for handed in (as_lists(word), as_tuples(word), tuple(word), tuple(as_lists(word))):
                        self.assertEqual(kinds(ask(list(row), handed)), wanted)
                        self.assertEqual(kinds(ask(word=handed, row=row)), wanted)

    def test_unlike(self):
        for names in (PEOPLE[:1], PEOPLE[:3], PEOPLE):
            for word in unlike_words(names):
                for ask in (called_all, rows_behind):
                    refusal(Unlike, ask, tuple(names), word)
                    refusal(Unlike, ask, names, as_lists(word))
                    refusal(Unlike, ask, word=as_tuples(word), row=names)
            for others in unlike_people(names):
                for ask in (called_all, rows_behind):
                    refusal(Unlike, ask, others, [stays(names)] * 2)

    def test_nothing_handed_in_is_changed(self):
        for names, some in WORDS:
            for word in some:
                handed, told = list(names), as_lists(word)
                for ask in (called_all, rows_behind):
                    ask(handed, told)
                    self.assertEqual((handed, told), (names, as_lists(word)))
                answer = rows_behind(handed, told)
                handed.reverse()
                told.clear()
                self.assertEqual(answer, rows_behind(names, word))

    def test_told_lists_are_the_askers_own(self):
        row, word = ("b", "a"), [stays("ab")]
        told = rows_behind(row, word)
        told.append(None)
        told[0] = None
        self.assertEqual(rows_behind(row, word), [row, row])
        self.assertEqual(word, [stays("ab")])


class Renamed(unittest.TestCase):
    def test_by_hand(self):
        word = [(("a", "b"), ("b", "b"), ("c", "a")), (("a", "a"), ("b", "c"), ("c", "b"))]
        self.assertEqual(
            renamed(word, {"a": "z", "b": "y", "c": "x"}),
            [(("x", "z"), ("y", "y"), ("z", "y")), (("x", "y"), ("y", "x"), ("z", "z"))],
        )
        self.assertEqual(renamed(word, {"c": "a", "a": "b", "b": "c"}),
                         [(("a", "b"), ("b", "c"), ("c", "c")), (("a", "c"), ("b", "b"), ("c", "a"))])

    def test_no_call(self):
        for bare in ([], ()):
            for names in ({}, {"a": "b"}, {"a": "b", "b": "a"}):
                self.assertEqual(kinds(renamed(bare, names)), kinds([]))

    def test_rows_go_along(self):
        chance = random.Random(3)
        for names, some in WORDS:
            new = [name[:4] + "qx" for name in names]
            for others in (new, names, names[::-1]):
                others = list(others)
                chance.shuffle(others)
                called_so = dict(zip(names, others))
                for word in some:
                    told = renamed(word, called_so)
                    self.assertIs(is_word(told), True)
                    self.assertEqual(len(told), len(word))
                    for row in shuffles(names, 2, 4):
                        wanted = tuple(called_so[name] for name in called_all(row, word))
                        self.assertEqual(called_all([called_so[name] for name in row], told), wanted)
                    back = {other: name for name, other in called_so.items()}
                    self.assertEqual(kinds(renamed(told, back)), kinds(word))

    def test_each_pair(self):
        for names, some in WORDS:
            called_so = dict(zip(names, names[1:] + names[:1]))
            for word in some:
                for call, told in zip(word, renamed(word, called_so)):
                    self.assertEqual(sorted(told), list(told))
                    self.assertEqual({called_so[who]: called_so[whom] for who, whom in call}, dict(told))

    def test_others_in_the_dict_do_nothing(self):
        word = [(("a", "b"), ("b", "b"))]
        self.assertEqual(renamed(word, {"z": "y", "b": "a", "a": "c", "q": "d"}), [(("a", "a"), ("c", "a"))])

    def test_lists_tuples_and_names_of_arguments(self):
        for names, some in WORDS:
            called_so = dict(zip(names, names[::-1]))
            for word in some:
                wanted = kinds(renamed(word, called_so))
                for handed in (as_lists(word), as_tuples(word), tuple(as_lists(word))):
                    self.assertEqual(kinds(renamed(handed, called_so)), wanted)
                    self.assertEqual(kinds(renamed(names=called_so, word=handed)), wanted)

    def test_calls_of_unlike_people(self):
        one, other = stays("ab"), stays("abc")
        called_so = {"a": "c", "b": "a", "c": "b"}
        refusal(Unlike, renamed, [one, other], called_so)
        refusal(Unlike, renamed, [other, other, one], called_so)

    def test_nothing_is_changed_and_told_lists_are_own(self):
        word, called_so = [[["a", "b"], ["b", "b"]]], {"b": "a", "a": "b"}
        told = renamed(word, called_so)
        self.assertEqual((word, called_so), ([[["a", "b"], ["b", "b"]]], {"b": "a", "a": "b"}))
        self.assertEqual(list(called_so), ["b", "a"])
        told.clear()
        self.assertEqual(renamed(word, called_so), [(("a", "a"), ("b", "a"))])
        same = renamed(word, {"a": "a", "b": "b"})
        same.append(None)
        self.assertEqual(len(word), 1)


if __name__ == "__main__":
    unittest.main()
