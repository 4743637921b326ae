import inspect
import itertools
import math
import unittest

from standby import had as module
from standby.errors import Never, Unlike
from standby.had import can_be, ends_many, had, shows_never, wants, web
from standby.walkers import pair_of
from standby.words import called_all

from samples import (
    BAD_NAMES, NOTHINGS, PEOPLE, SMALL, as_lists, as_tuples, kinds, many_words, orders, refusal, shuffles, small_words,
    stays, unlike_people, unlike_words,
)

SWAP = (("a", "b"), ("b", "a"), ("c", "c"))
LED = (("a", "b"), ("b", "b"), ("c", "c"))


def wanted_of(row, word):
    """The wants by the words of [11]."""
    return sorted({pair_of(word, one, other) for one, other in itertools.combinations(row, 2)})


def had_by_words(row, word):
    """The row ahead of it by the words of [11], None where nobody can be the next one."""
    told = wanted_of(row, word)
    left = sorted(row)
    first = []
    while left:
        free = [name for name in left if not any(later == name and earlier in left for earlier, later in told)]
        if not free:
            return None
        first.append(min(free))
        left.remove(min(free))
    return tuple(first)


def is_ring(thing, told):
    """Whether a list of names is a ring of these wants."""
    return len(thing) > 1 and len(set(thing)) == len(thing) and all(
        pair in told for pair in zip(thing, thing[1:] + thing[:1]))


class Interface(unittest.TestCase):
    def test_names_of_arguments(self):
        for ask, arguments in (
            (web, ["names", "word"]),
            (wants, ["row", "word"]),
            (had, ["row", "word"]),
            (can_be, ["row", "word"]),
            (shows_never, ["row", "word", "thing"]),
            (ends_many, ["names", "word"]),
        ):
            self.assertEqual(list(inspect.signature(ask).parameters), arguments)
            self.assertEqual(ask.__module__, module.__name__)


class Web(unittest.TestCase):
    def test_all_words(self):
        for names in SMALL + (tuple(PEOPLE[:9]), tuple(PEOPLE)):
            words = small_words(names) if len(names) < 5 else many_words(names, [0, 1, 2, 40], 4)
            for word in words:
                wanted = sorted({tuple(sorted(pair_of(word, *two))) for two in itertools.combinations(names, 2)})
                self.assertEqual(kinds(web(names, word)), kinds(wanted))
                self.assertEqual(kinds(web(names[::-1], word)), kinds(wanted))

    def test_by_hand(self):
        self.assertEqual(web(["a"], []), [])
        self.assertEqual(web(["b", "a"], []), [("a", "b")])
        self.assertEqual(web(["c", "b", "a"], []), [("a", "b"), ("a", "c"), ("b", "c")])
        self.assertEqual(web(["c", "b", "a"], [LED]), [("a", "b"), ("b", "c")])
        self.assertEqual(web(["c", "b", "a"], [SWAP]), [("a", "b"), ("a", "c"), ("b", "c")])


class Wants(unittest.TestCase):
    def test_all_words(self):
        for names in SMALL + (tuple(PEOPLE[:9]), tuple(PEOPLE)):
            words = small_words(names)[:14] if len(names) < 5 else many_words(names, [0, 1, 2, 40], 5)
            for word, row in itertools.product(words, shuffles(names, 3, 5)):
                self.assertEqual(kinds(wants(row, word)), kinds(wanted_of(row, word)))

    def test_by_hand(self):
        self.assertEqual(wants(("a",), []), [])
        self.assertEqual(wants(("c", "a", "b"), []), [("a", "b"), ("c", "a"), ("c", "b")])
        self.assertEqual(wants(("c", "a", "b"), [LED]), [("a", "b"), ("c", "b")])
        self.assertEqual(wants(("a", "c", "b"), [LED]), [("a", "b"), ("b", "c"), ("c", "b")])


class Had(unittest.TestCase):
    def check(self, row, word, ends):
        wanted = had_by_words(row, word)
        self.assertEqual(wanted is not None, row in ends)
        self.assertIs(can_be(row, word), row in ends)
        if row in ends:
            self.assertEqual(kinds(had(row, word)), kinds(wanted))
            self.assertEqual(called_all(wanted, word), row)
            return
        error = refusal(Never, had, row, word)
        self.assertIsInstance(error.ring, list)
        self.assertTrue(is_ring(error.ring, wanted_of(row, word)), (row, word, error.ring))
        self.assertIs(shows_never(row, word, error.ring), True)

    def test_all_small_rows(self):
        """Promise (d) of [1]."""
        for names in SMALL:
            for word in small_words(names):
                ends = {called_all(row, word) for row in orders(names)}
                self.assertEqual(kinds(ends_many(names, word)), ("int", len(ends)))
                for row in orders(names):
                    self.check(row, word, ends)

    def test_rows_of_five(self):
        names = PEOPLE[:5]
        for word in many_words(names, [1, 2, 3, 4], 6):
            ends = {called_all(row, word) for row in orders(names)}
            self.assertEqual(ends_many(names, word), len(ends))
            for row in orders(names):
                self.check(row, word, ends)

    def test_many_people(self):
        for names in (PEOPLE[:9], PEOPLE):
            for word in many_words(names, [0, 1, 1, 2, 3, 40], 7):
                for row in shuffles(names, 3, 7):
                    behind = called_all(row, word)
                    self.assertIs(can_be(behind, word), True)
                    first = had(behind, word)
                    self.assertEqual(first, had_by_words(behind, word))
                    self.assertEqual(called_all(first, word), behind)
                    if had_by_words(row, word) is None:
                        self.check(row, word, set())

    def test_rows_that_can_never_have_been(self):
        names = PEOPLE
        told = dict(stays(names))
        told[names[1]] = names[0]
        word = [tuple(told.items())]
        row = (names[0],) + tuple(names[2:]) + (names[1],)
        self.assertIs(can_be(row, word), False)
        self.check(row, word, set())

    def test_long_rings(self):
        seen = 0
        for word in many_words(PEOPLE[:6], [2, 3] * 40, 8):
            for row in shuffles(PEOPLE[:6], 4, 8):
                if had_by_words(row, word) is None:
                    ring = refusal(Never, had, row, word).ring
                    self.assertTrue(is_ring(ring, wanted_of(row, word)))
                    seen = max(seen, len(ring))
        self.assertGreater(seen, 2)

    def test_one_person_and_no_call(self):
        for word in ([], [stays("a")], [stays("a")] * 40):
            self.assertEqual(kinds(had(["a"], word)), kinds(("a",)))
            self.assertIs(can_be(("a",), word), True)
            self.assertEqual(ends_many(["a"], word), 1)
            self.assertIs(shows_never(("a",), word, ["a"]), False)
        for row in shuffles(PEOPLE, 3, 9):
            self.assertEqual(kinds(had(list(row), [])), kinds(row))
            self.assertIs(can_be(row, []), True)

    def test_the_least_name_goes_first(self):
        # With both told b, it does not matter where a stood to c.
        self.assertEqual(had(("c", "a", "b"), [LED]), ("a", "c", "b"))
        self.assertEqual(had(("a", "b", "c"), [LED]), ("a", "b", "c"))

    def test_a_ring_is_the_askers_own(self):
        row, word = ("a", "c", "b"), [LED]
        ring = refusal(Never, had, row, word).ring
        again = list(ring)
        ring.clear()
        self.assertEqual(refusal(Never, had, row, word).ring, again)


class ShowsNever(unittest.TestCase):
    def test_all_lists_of_small_rows(self):
        for names in SMALL[:3]:
            lists = [list(some) for many in range(5) for some in itertools.product(names + ("q",), repeat=many)]
            for word in small_words(names)[:14]:
                for row in orders(names):
                    told = wanted_of(row, word)
                    for thing in lists:
                        self.assertIs(shows_never(row, word, thing), is_ring(thing, told), (row, word, thing))

    def test_lists_of_four(self):
        names = SMALL[3]
        lists = [list(some) for many in range(2, 5) for some in itertools.permutations(names, many)]
        shown = 0
        for word in many_words(names, [1, 2, 2, 3], 10):
            for row in orders(names):
                told = wanted_of(row, word)
                never = [thing for thing in lists if is_ring(thing, told)]
                self.assertEqual(can_be(row, word), never == [])
                for thing in lists:
                    self.assertIs(shows_never(row, word, thing), thing in never)
                shown += len(never)
        self.assertGreater(shown, 20)

    def right_ones(self):
        for names in (("a", "b", "c"), ("d", "c", "b", "a"), tuple(PEOPLE[:9]), tuple(PEOPLE)):
            for word in [[stays(names)]] + many_words(names, [1, 2, 3, 9], 11):
                for row in shuffles(names, 3, 11):
                    if not can_be(row, word):
                        yield row, word, refusal(Never, had, row, word).ring

    def test_other_things(self):
        self.assertGreater(len(list(self.right_ones())), 10)
        for row, word, ring in self.right_ones():
            told = wanted_of(row, word)
            self.assertIs(shows_never(row, word, ring[1:] + ring[:1]), True)
            for wrong in (
                tuple(ring), [ring], [tuple(ring)], (ring,), ring[:1], [], (), ring * 2, ring + ring[:1], ring + ["qq"],
                ["qq"] + ring, ring[:-1] + ["qq"], ring[:-1] + [None], ring[:-1] + [ring[-1:]], ring + [None],
                [[name] for name in ring], [(name,) for name in ring], list(zip(ring, ring[1:] + ring[:1])),
                " ".join(ring), ring[:-1] + [""], ring[:-1] + [ring[-1].upper()], ["qq", "qr"], [ring[0], ring[0]],
                ring[:-1] + [0], ring[:-1] + [True], {}.get("a"),
            ):
                self.assertIs(shows_never(row, word, wrong), False, repr(wrong)[:200])
            self.assertIs(shows_never(row, word, ring[::-1]), is_ring(ring[::-1], told))
            self.assertIs(shows_never(row, word, ring[1:]), is_ring(ring[1:], told))

    def test_things_of_any_kind(self):
        for row, word, ring in itertools.islice(self.right_ones(), 12):
            told = wanted_of(row, word)
            for wrong in NOTHINGS + BAD_NAMES:
                if wrong != ["a", "b"]:
                    self.assertIs(shows_never(row, word, wrong), False, repr(wrong)[:80])
                for thing in ([wrong], [wrong, wrong], ring + [wrong], [wrong] + ring, ring[:-1] + [wrong]):
                    names = [name for name in thing if isinstance(name, str)]
                    good = names == thing and is_ring(thing, told)
                    self.assertIs(shows_never(row, word, thing), good, repr(thing)[:99])

    def test_whatever_size(self):
        many = ["".join(letters) for letters in itertools.product("abcdefghij", repeat=4)]
        for row, word, ring in itertools.islice(self.right_ones(), 2):
            self.assertIs(shows_never(row, word, many), False)
            self.assertIs(shows_never(row, word, ring * 10000), False)

    def test_rows_that_can_be(self):
        for row in orders("abc"):
            for thing in itertools.permutations("abc", 2):
                self.assertIs(shows_never(row, [SWAP], list(thing)), False)


class EndsMany(unittest.TestCase):
    def test_all_rows_where_all_can_be(self):
        for many in range(1, 10):
            names = PEOPLE[:many]
            for word in ([], [stays(names)], [tuple((name, names[0]) for name in names)]):
                self.assertEqual(kinds(ends_many(names, word)), ("int", math.factorial(many)))

    def test_nine_people(self):
        names = PEOPLE[:7]
        for word in many_words(names, [1, 2, 3], 12):
            ends = {called_all(row, word) for row in orders(names)}
            self.assertEqual(ends_many(names[::-1], word), len(ends))
        names = PEOPLE[:9]
        # Of two lots, one told one name and the other another: first which lot is ahead, then each lot's order.
        call = tuple((name, names[0] if at < 4 else names[8]) for at, name in enumerate(names))
        self.assertEqual(ends_many(names, [call]), 2 * math.factorial(4) * math.factorial(5))
        self.assertEqual(web(names, [call])[0], (names[0], names[1]))

    def test_ends_are_told_apart_by_the_web(self):
        for names in SMALL:
            for word in small_words(names):
                pairs = web(names, word)
                seen = {}
                for row in orders(names):
                    ways = tuple(row.index(one) < row.index(other) for one, other in pairs)
                    self.assertEqual(seen.setdefault(ways, called_all(row, word)), called_all(row, word))
                self.assertEqual(len(set(seen.values())), len(seen))
                self.assertEqual(ends_many(names, word), len(seen))

    def test_somewhat_more_people(self):
        self.assertEqual(ends_many(PEOPLE[:11], []), math.factorial(11))


class Everything(unittest.TestCase):
    def asked(self, row, word):
        return [
            (web, {"names": row, "word": word}),
            (wants, {"row": row, "word": word}),
            (can_be, {"row": row, "word": word}),
            (shows_never, {"row": row, "word": word, "thing": ["a", "b"]}),
            (shows_never, {"row": row, "word": word, "thing": None}),
            (had, {"row": row, "word": word}),
        ] + [(ends_many, {"names": row, "word": word})] * (len(row) < 10)

    def test_lists_tuples_and_names_of_arguments(self):
        for names in SMALL + (tuple(PEOPLE),):
            for word in many_words(names, [0, 1, 3], 13):
                for row in [called_all(row, word) for row in shuffles(names, 2, 13)]:
                    for ask, told in self.asked(row, word):
                        wanted = kinds(ask(*told.values()))
                        for handed in (as_lists(word), as_tuples(word), tuple(as_lists(word))):
                            named = {name: list(row) if name in ("row", "names") else thing
                                     for name, thing in reversed(list(told.items()))}
                            named["word"] = handed
                            self.assertEqual(kinds(ask(**named)), wanted)

    def test_never_of_lists(self):
        for row, word in ((("a", "c", "b"), [LED]), (("b", "c", "a"), [LED])):
            ring = refusal(Never, had, row, word).ring
            self.assertEqual(refusal(Never, had, list(row), as_lists(word)).ring, ring)
            self.assertEqual(refusal(Never, had, word=as_tuples(word), row=row).ring, ring)

    def test_unlike(self):
        for names in (PEOPLE[:1], PEOPLE[:3], PEOPLE):
            for word in unlike_words(names):
                for handed in (word, as_lists(word)):
                    for ask, told in self.asked(names, handed):
                        refusal(Unlike, ask, **told)
            for others in unlike_people(names):
                for ask, told in self.asked(others, [stays(names)]):
                    refusal(Unlike, ask, **told)

    def test_unlike_whatever_thing_is(self):
        for word in unlike_words("abc"):
            for thing in NOTHINGS + [["a", "b"], ["a", "b", "c"]]:
                refusal(Unlike, shows_never, "abc", word, thing)

    def test_unlike_ahead_of_never(self):
        refusal(Unlike, had, ("a", "c", "b"), [LED, stays("ab")])
        refusal(Unlike, had, ("a", "c", "b"), [stays("abcd"), LED])

    def test_nothing_is_changed_and_told_lists_are_own(self):
        for names in SMALL + (tuple(PEOPLE),):
            for word in many_words(names, [0, 1, 3], 14):
                row, handed = list(called_all(names, word)), as_lists(word)
                before = list(row)
                for ask, told in self.asked(row, handed):
                    answer = ask(**told)
                    self.assertEqual((row, handed), (before, as_lists(word)))
                    if isinstance(answer, list):
                        again = list(answer)
                        answer.append(None)
                        answer.reverse()
                        self.assertEqual(ask(**told), again)

    def test_told_things_are_handed_in_again(self):
        word = [LED, SWAP]
        row = called_all(("c", "b", "a"), word)
        self.assertEqual(called_all(had(row, word), word), row)
        self.assertIs(can_be(had(row, word), []), True)


if __name__ == "__main__":
    unittest.main()
