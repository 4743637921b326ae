import inspect
import itertools
import math
import unittest

from standby import single
from standby.calling import called
from standby.calls import all_to, stay
from standby.single import again_many, depth, passes, rests_all, rounds

from samples import PEOPLE, SMALL, all_calls, as_lists, as_tuples, kinds, many_calls, many_words, orders, ring_call

ASKS = (rounds, depth, again_many, rests_all, passes)
# Two rounds, of three and of one, with people beside them, two steps away at most.
MIXED = (("a", "c"), ("b", "b"), ("c", "f"), ("d", "a"), ("e", "d"), ("f", "a"), ("g", "b"))


def many_sorts(names):
    """CALLs of these people: at random, all told their own, all told one, all told round."""
    calls = many_calls(names, 4, len(names)) + many_words(names, [8], len(names))[0]
    return calls + [stay(names), all_to(names, names[0]), all_to(names, names[-1]), ring_call(names)]


LARGE = [call for many in (5, 9, 24) for call in many_sorts(PEOPLE[:many])]


def is_on_round(told, name):
    """Whether somebody comes to their own name again."""
    at = told[name]
    for _ in told:
        if at == name:
            return True
        at = told[at]
    return False


def walked(told, name, many):
    for _ in range(many):
        name = told[name]
    return name


def again(rows, step):
    """The ROWs that come again, gone through row by row."""
    found = set()
    for row in rows:
        seen = []
        while row not in seen:
            seen.append(row)
            row = step[row]
        found |= set(seen[seen.index(row):])
    return found


class Interface(unittest.TestCase):
    def test_names_of_arguments(self):
        for ask in ASKS:
            self.assertEqual(list(inspect.signature(ask).parameters), ["call"])
            self.assertEqual((ask.__module__, vars(single)[ask.__name__]), (single.__name__, ask))


class Rounds(unittest.TestCase):
    def check(self, call):
        told = dict(call)
        found = rounds(call)
        self.assertIsInstance(found, list)
        self.assertEqual(found, sorted(set(found)))
        for ring in found:
            self.assertIsInstance(ring, tuple)
            self.assertEqual(ring[0], min(ring))
            self.assertEqual(len(set(ring)), len(ring))
            for at, name in enumerate(ring):
                self.assertEqual(told[name], ring[(at + 1) % len(ring)])
        self.assertEqual(sorted(name for ring in found for name in ring),
                         [name for name in sorted(told) if is_on_round(told, name)])

    def test_all(self):
        for call in [call for names in SMALL for call in all_calls(names)] + LARGE:
            self.check(call)

    def test_by_hand(self):
        self.assertEqual(rounds(MIXED), [("a", "c", "f"), ("b",)])
        self.assertEqual(rounds((("a", "a"),)), [("a",)])
        self.assertEqual(rounds(stay(["b", "c", "a"])), [("a",), ("b",), ("c",)])
        self.assertEqual(rounds(all_to(["b", "c", "a"], "b")), [("b",)])
        self.assertEqual(rounds((("a", "d"), ("b", "c"), ("c", "b"), ("d", "a"))), [("a", "d"), ("b", "c")])
        self.assertEqual(rounds((("a", "c"), ("b", "a"), ("c", "b"))), [("a", "c", "b")])
        self.assertEqual(rounds(ring_call(PEOPLE)), [tuple(PEOPLE)])


class Depth(unittest.TestCase):
    def check(self, call):
        told = dict(call)
        many = 0
        while not all(is_on_round(told, walked(told, name, many)) for name in told):
            many += 1
        self.assertEqual(kinds(depth(call)), ("int", many))

    def test_all(self):
        for call in [call for names in SMALL for call in all_calls(names)] + LARGE:
            self.check(call)

    def test_by_hand(self):
        self.assertEqual(depth(MIXED), 2)
        self.assertEqual(depth((("a", "a"),)), 0)
        self.assertEqual(depth(stay(PEOPLE)), 0)
        self.assertEqual(depth(ring_call(PEOPLE)), 0)
        self.assertEqual(depth(all_to(PEOPLE, "m")), 1)

    def test_a_long_way(self):
        for many in (2, 3, 24):
            names = PEOPLE[:many]
            call = tuple(zip(names, names[:1] + names))
            self.assertEqual(depth(call), many - 1)
            self.assertEqual(rounds(call), [("a",)])


class AgainMany(unittest.TestCase):
    def test_row_by_row(self):
        """Promise (e) of [1]."""
        for names in SMALL:
            rows = orders(names)
            for call in all_calls(names):
                step = {row: called(row, call) for row in rows}
                comes = again(rows, step)
                self.assertEqual(kinds(again_many(call)), ("int", len(comes)), call)
                self.assertIs(rests_all(call), all(step[row] == row for row in comes), call)

    def test_rows_of_five(self):
        names = PEOPLE[:5]
        rows = orders(names)
        for call in LARGE[:16]:
            step = {row: called(row, call) for row in rows}
            comes = again(rows, step)
            self.assertEqual(again_many(call), len(comes), call)
            self.assertIs(rests_all(call), all(step[row] == row for row in comes), call)

    def test_by_hand(self):
        self.assertEqual(again_many((("a", "a"),)), 1)
        self.assertEqual(again_many(stay(PEOPLE)), math.factorial(24))
        self.assertEqual(again_many(ring_call(PEOPLE)), math.factorial(24))
        self.assertEqual(again_many(all_to(PEOPLE, "m")), math.factorial(24))
        # Four on rounds; a is told to two, b too.
        self.assertEqual(again_many(MIXED), 24 * 2 * 2)

    def test_all(self):
        for call in LARGE:
            told = dict(call)
            many = math.factorial(len([name for name in told if is_on_round(told, name)]))
            for name in told:
                many *= math.factorial(list(told.values()).count(name))
            self.assertEqual(kinds(again_many(call)), ("int", many))


class RestsAll(unittest.TestCase):
    def test_by_hand(self):
        for names in (["a"], ["b", "a"], PEOPLE):
            self.assertIs(rests_all(stay(names)), True)
            self.assertIs(rests_all(all_to(names, "a")), True)
            self.assertIs(rests_all(ring_call(names)), len(names) == 1)
        self.assertIs(rests_all(MIXED), False)
        self.assertIs(rests_all((("a", "b"), ("b", "c"), ("c", "c"), ("d", "d"))), True)
        self.assertIs(rests_all((("a", "b"), ("b", "a"), ("c", "c"), ("d", "d"))), False)

    def test_all(self):
        for call in LARGE:
            told = dict(call)
            moving = [name for name in told if is_on_round(told, name) and told[name] != name]
            self.assertIs(rests_all(call), not moving)


class Passes(unittest.TestCase):
    def test_row_by_row(self):
        for names in SMALL:
            for call in all_calls(names):
                seen = set()
                for row in orders(names):
                    behind = called(row, call)
                    seen |= {(one, other) for other, one in itertools.combinations(row, 2)
                             if behind.index(one) < behind.index(other)}
                self.assertEqual(kinds(passes(call)), kinds(sorted(seen)))

    def test_by_hand(self):
        self.assertEqual(passes((("a", "a"),)), [])
        self.assertEqual(passes((("a", "b"), ("b", "a"))), [("a", "b"), ("b", "a")])
        self.assertEqual(passes((("a", "b"), ("b", "b"))), [])
        self.assertEqual(passes((("a", "b"), ("b", "b"), ("c", "c"))), [("a", "c"), ("c", "a")])

    def test_large(self):
        every = list(itertools.permutations(PEOPLE, 2))
        self.assertEqual(passes(stay(PEOPLE)), [])
        self.assertEqual(passes(all_to(PEOPLE, "m")), [])
        self.assertEqual(passes(ring_call(PEOPLE)), every)
        for call in LARGE[-16:]:
            told = dict(call)
            wanted = [two for two in every if told[two[0]] != told[two[1]] and two != (told[two[0]], told[two[1]])]
            self.assertEqual(passes(call), wanted)


class Everything(unittest.TestCase):
    def test_lists_for_tuples_and_names_of_arguments(self):
        for call in LARGE[::3] + [MIXED, (("a", "a"),)]:
            for ask in ASKS:
                wanted = kinds(ask(call))
                self.assertEqual(kinds(ask(as_lists(call))), wanted)
                self.assertEqual(kinds(ask(list(call))), wanted)
                self.assertEqual(kinds(ask(call=as_tuples(call))), wanted)

    def test_nothing_handed_in_is_changed(self):
        for call in LARGE[::3] + [MIXED]:
            handed = as_lists(call)
            told = [ask(handed) for ask in ASKS]
            self.assertEqual(handed, as_lists(call))
            handed[0].reverse()
            handed.clear()
            self.assertEqual(told, [ask(call) for ask in ASKS])

    def test_told_lists_are_the_askers_own(self):
        for ask in (rounds, passes):
            wanted = list(ask(MIXED))
            told = ask(MIXED)
            told.reverse()
            told.pop()
            self.assertEqual(ask(MIXED), wanted)
            self.assertIsNot(ask(MIXED), ask(MIXED))


if __name__ == "__main__":
    unittest.main()
