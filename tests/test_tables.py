import inspect
import itertools
import unittest

from standby import tables
from standby.errors import Alike, NoName, Unlike
from standby.tables import Table
from standby.walkers import pair_of
from standby.words import called_all

from samples import (
    BAD_NAMES, NOTHINGS, PEOPLE, SMALL, all_calls, as_lists, as_tuples, kinds, many_words, orders, refusal, shuffles,
    stays, unlike_people, unlike_words,
)

WORDS = [(PEOPLE[:many], many_words(PEOPLE[:many], [0, 1, 2, 3, 7, 40], many)) for many in (1, 2, 3, 4, 9, 24)]
SWAP = (("a", "b"), ("b", "a"))


def told(table):
    """All that the table tells of two people."""
    return {two: table.tells(*two) for two in itertools.permutations(table.names(), 2)}


class Interface(unittest.TestCase):
    def test_names_of_arguments(self):
        self.assertEqual((Table.__module__, Table.__name__), (tables.__name__, "Table"))
        self.assertEqual(list(inspect.signature(Table).parameters), ["names", "word"])
        wanted = {
            "names": ["self"],
            "tells": ["self", "one", "other"],
            "then": ["self", "other"],
            "times": ["self", "many"],
            "leads": ["self", "row"],
        }
        for name, arguments in wanted.items():
            self.assertEqual(list(inspect.signature(vars(Table)[name]).parameters), arguments)
        self.assertLessEqual({"__init__", "__eq__", "__len__"}, set(vars(Table)))

    def test_by_name_in_another_order(self):
        table = Table(word=[SWAP], names=["b", "a"])
        self.assertEqual(table.tells(other="a", one="b"), ("a", "b"))
        self.assertEqual(table.then(other=table), Table(["a", "b"], []))
        self.assertEqual(table.times(many=3), table)
        self.assertEqual(table.leads(row=["a", "b"]), ("b", "a"))


class Names(unittest.TestCase):
    def test_names_and_len(self):
        for names, some in WORDS:
            for word, row in itertools.product(some, shuffles(names, 2, 1)):
                for handed in (row, list(row)):
                    table = Table(handed, word)
                    self.assertEqual(kinds(table.names()), kinds(tuple(sorted(names))))
                    self.assertEqual(kinds(len(table)), ("int", len(names)))

    def test_unlike(self):
        for names in (PEOPLE[:1], PEOPLE[:3], PEOPLE):
            for word in unlike_words(names):
                refusal(Unlike, Table, names, word)
                refusal(Unlike, Table, tuple(names), as_lists(word))
                refusal(Unlike, Table, word=as_tuples(word), names=names[::-1])
            for others in unlike_people(names):
                refusal(Unlike, Table, others, [stays(names)])

    def test_what_is_handed_in_is_not_changed_or_kept(self):
        for names, some in WORDS:
            for word in some:
                handed, calls = names[::-1], as_lists(word)
                table = Table(handed, calls)
                wanted = told(table)
                self.assertEqual((handed, calls), (names[::-1], as_lists(word)))
                handed.append("qq")
                for call in calls:
                    call.reverse()
                    call[0][1] = call[0][0]
                calls.append(stays("qr"))
                self.assertEqual(table.names(), tuple(names))
                self.assertEqual(told(table), wanted)
                self.assertEqual(table, Table(names, word))
                self.assertEqual(table.leads(names), called_all(names, word))


class Tells(unittest.TestCase):
    def test_pair_of(self):
        for names, some in WORDS:
            for word in some:
                table = Table(names, word)
                for one, other in list(itertools.permutations(names, 2))[::1 if len(names) < 10 else 29]:
                    self.assertEqual(kinds(table.tells(one, other)), kinds(pair_of(word, one, other)))

    def test_by_hand(self):
        table = Table(["a", "b", "c"], [(("a", "c"), ("b", "b"), ("c", "b")), (("a", "b"), ("b", "a"), ("c", "c"))])
        self.assertEqual(table.tells("a", "b"), ("b", "c"))
        self.assertEqual(table.tells("c", "a"), ("c", "b"))
        self.assertEqual(table.tells("b", "c"), ("c", "b"))

    def test_no_name_of_one_then_of_other_then_alike(self):
        for names in (["a"], ["b", "a"], PEOPLE):
            table = Table(names, [stays(names)])
            for name in BAD_NAMES + ["aaa", "qq"]:
                self.assertEqual(refusal(NoName, table.tells, name, "a").name, name)
                self.assertEqual(refusal(NoName, table.tells, "a", name).name, name)
                self.assertEqual(refusal(NoName, table.tells, name, "nobody").name, name)
                self.assertEqual(refusal(NoName, table.tells, "nobody", name).name, "nobody")
                self.assertEqual(refusal(NoName, table.tells, name, name).name, name)
                self.assertEqual(refusal(NoName, table.tells, other="nobody", one=name).name, name)
            for name in names:
                self.assertEqual(refusal(Alike, table.tells, name, name).name, name)
                self.assertEqual(refusal(Alike, table.tells, other=name, one=name).name, name)
            self.assertEqual(table, Table(names, []))


class Then(unittest.TestCase):
    def test_word_behind_word(self):
        """Promise (b) of [1]: words one behind the other are tables put together."""
        for names, some in WORDS:
            for one, other in itertools.product(some[:5], repeat=2):
                first, second = Table(names, one), Table(names, other)
                before, behind = told(first), told(second)
                both = first.then(second)
                self.assertIsInstance(both, Table)
                self.assertEqual(both.names(), first.names())
                self.assertEqual(told(both), told(Table(names, one + other)))
                self.assertIs(both == Table(names, one + other), True)
                self.assertEqual(both.leads(names), called_all(names, one + other))
                self.assertEqual((told(first), told(second)), (before, behind))

    def test_order_matters(self):
        one, other = [(("a", "c"), ("b", "b"), ("c", "c"))], [(("a", "b"), ("b", "a"), ("c", "c"))]
        first, second = Table("abc", one), Table("abc", other)
        self.assertNotEqual(first.then(second), second.then(first))
        self.assertEqual(first.then(second).tells("a", "b"), ("b", "c"))

    def test_with_itself(self):
        table = Table(["a", "b"], [SWAP])
        self.assertEqual(table.then(table), Table(["a", "b"], []))
        self.assertEqual(table, Table(["a", "b"], [SWAP]))

    def test_unlike(self):
        for names in (PEOPLE[:1], PEOPLE[:3], PEOPLE):
            table = Table(names, [stays(names)])
            for others in unlike_people(names):
                for word in ([], [stays(others)]):
                    refusal(Unlike, table.then, Table(others, word))
                    refusal(Unlike, Table(others, word).then, table)
            self.assertEqual(table, Table(names, []))


class Times(unittest.TestCase):
    def test_few_times(self):
        for names, some in WORDS:
            for word in some[:5]:
                table = Table(names, word)
                before = told(table)
                for many in (0, 1, 2, 3, 4, 5, 8, 13):
                    often = table.times(many)
                    self.assertIsInstance(often, Table)
                    self.assertEqual(told(often), told(Table(names, word * many)))
                    self.assertIs(often == Table(names, word * many), True)
                self.assertEqual(told(table), before)

    def test_so_often(self):
        many = 10 ** 12
        for names, some in WORDS:
            for word in some:
                table = Table(names, word)
                often = table.times(many)
                self.assertEqual(often, table.times(10 ** 6).times(10 ** 6))
                self.assertEqual(often, table.times(many - 12345).then(table.times(12345)))
                self.assertEqual(often.then(table), table.times(many + 1))
                self.assertEqual(often.names(), table.names())

    def test_rounds_of_known_length(self):
        names = PEOPLE[:23]
        turned = {}
        for some in (names[:3], names[3:8], names[8:15], names[15:]):
            turned.update(zip(some, some[1:] + some[:1]))
        table = Table(names, [tuple(sorted(turned.items()))])
        bare = Table(names, [])
        self.assertEqual(table.times(840), bare)
        for part in (420, 280, 168, 120, 1):
            self.assertNotEqual(table.times(part), bare)
        self.assertEqual(table.times(10 ** 12), table.times(10 ** 12 % 840))
        self.assertEqual(table.times(840 * 10 ** 9 + 1), table)


class Leads(unittest.TestCase):
    def test_all_small_rows(self):
        for names in SMALL:
            words = many_words(names, [0, 1, 2, 3, 5, 9] * 3, 2)
            if len(names) < 4:
                words += [[call] for call in all_calls(names)]
            for word in words:
                table = Table(names, word)
                for row in orders(names):
                    self.assertEqual(kinds(table.leads(row)), kinds(called_all(row, word)))

    def test_many_people(self):
        for names, some in WORDS:
            for word, row in itertools.product(some, shuffles(names, 3, 3)):
                table = Table(names, word)
                handed = list(row)
                self.assertEqual(kinds(table.leads(handed)), kinds(called_all(row, word)))
                self.assertEqual(handed, list(row))
                self.assertEqual(table.leads(row), called_all(row, word))

    def test_unlike(self):
        for names in (PEOPLE[:1], PEOPLE[:3], PEOPLE):
            for table in (Table(names, []), Table(names, [stays(names)])):
                for others in unlike_people(names):
                    refusal(Unlike, table.leads, others)
                    refusal(Unlike, table.leads, row=tuple(others[::-1]))
                self.assertEqual(table.leads(names), tuple(names))


class Equal(unittest.TestCase):
    def check(self, one, other, same):
        self.assertIs(one == other, same)
        self.assertIs(other == one, same)
        self.assertIs(one != other, not same)
        self.assertIs(other != one, not same)

    def test_just_where_all_rows_go_the_same(self):
        for names in SMALL[:3]:
            words = [[call] for call in all_calls(names)] + many_words(names, [0, 2, 3], 4)
            behind = [[called_all(row, word) for row in orders(names)] for word in words]
            made = [Table(names, word) for word in words]
            for (one, mine), (other, theirs) in itertools.combinations_with_replacement(zip(made, behind), 2):
                self.check(one, other, mine == theirs)

    def test_written_otherwise(self):
        self.check(Table("ab", [SWAP]), Table("ba", [SWAP] * 3), True)
        self.check(Table("ab", [SWAP] * 2), Table("ab", []), True)
        self.check(Table("abc", [tuple((who, "b") for who in "abc")]), Table("abc", []), True)
        self.check(Table("ab", [SWAP]), Table("ab", []), False)

    def test_other_people(self):
        self.check(Table(["a"], []), Table(["b"], []), False)
        self.check(Table(["a"], []), Table(["a"], [stays("a")]), True)
        self.check(Table(["a", "b"], []), Table(["a", "c"], []), False)
        self.check(Table(["a", "b"], []), Table(["a", "b", "c"], []), False)
        self.check(Table(PEOPLE, []), Table(PEOPLE[1:], []), False)

    def test_things_of_other_kinds(self):
        table = Table(["a", "b"], [SWAP])
        for thing in NOTHINGS + [{}, told(table), table.names(), [SWAP], 2, object(), (table,), [table]]:
            self.check(table, thing, False)

    def test_two_to_which_the_same_was_done(self):
        for names, some in WORDS:
            for word in some[:4]:
                one = Table(names, word).times(3).then(Table(names, word))
                other = Table(names[::-1], as_lists(word)).times(3).then(Table(tuple(names), as_tuples(word)))
                self.check(one, other, True)
                self.check(one, Table(names, word * 4), True)


if __name__ == "__main__":
    unittest.main()
