import inspect
import itertools
import unittest

from standby import calls
from standby.calls import all_to, call_of, going, goers, groups, is_call, people, stay, whom
from standby.errors import NoName

from samples import (
    BAD_NAMES, NAMES, NOTHINGS, PEOPLE, all_calls, as_lists, kinds, many_calls, refusal, shuffles,
)

SWAP = (("a", "b"), ("b", "a"))
MIXED = (("a", "c"), ("b", "b"), ("c", "zz"), ("zz", "c"))
SMALL = [call for many in (1, 2, 3) for names in itertools.combinations(("a", "ab", "b"), many)
         for call in all_calls(names)]
CALLS = SMALL + [(("zzzzzz", "zzzzzz"),), SWAP, MIXED] + many_calls(PEOPLE, 8, 3)
GROUPS_OF_NAMES = [["a"], ["zzzzzz"], ["b", "a"], ["a", "b"], ["b", "c", "a", "ab"]] + [
    list(row) for row in shuffles(PEOPLE, 3, 4)]


class Interface(unittest.TestCase):
    def test_names_of_arguments(self):
        wanted = {
            "is_call": ["thing"],
            "people": ["call"],
            "whom": ["call", "name"],
            "stay": ["names"],
            "all_to": ["names", "name"],
            "going": ["names", "who", "name"],
            "call_of": ["names", "told"],
            "groups": ["call"],
            "goers": ["call"],
        }
        for name, arguments in wanted.items():
            ask = getattr(calls, name)
            self.assertEqual(list(inspect.signature(ask).parameters), arguments)
            self.assertEqual((ask.__module__, ask.__name__), ("standby.calls", name))


class IsCall(unittest.TestCase):
    def test_calls(self):
        for call in CALLS:
            self.assertIs(is_call(call), True, call)
            self.assertIs(is_call(thing=call), True, call)

    def test_all_small_tuples_of_pairs(self):
        names = ("a", "ab", "b")
        pairs = list(itertools.product(names, repeat=2))
        good = {call for many in (1, 2, 3) for some in itertools.combinations(names, many) for call in all_calls(some)}
        self.assertEqual(len(good), 3 * 1 + 3 * 4 + 27)
        for many in range(4):
            for thing in itertools.product(pairs, repeat=many):
                self.assertIs(is_call(thing), thing in good, thing)

    def test_names_of_one_and_six_letters(self):
        for name in NAMES:
            self.assertIs(is_call(((name, name),)), True, name)
        self.assertIs(is_call((("abcdef", "z"), ("z", "abcdef"))), True)

    def test_bad_names(self):
        for bad in BAD_NAMES:
            self.assertIs(is_call(((bad, bad),)), False, bad)
            self.assertIs(is_call((("a", bad),)), False, bad)
            self.assertIs(is_call(((bad, "a"),)), False, bad)
            pairs = sorted([("m", "m"), (bad, "m")])
            self.assertIs(is_call(tuple(pairs)), False, bad)
            pairs = sorted([("m", bad), (bad, "m")])
            self.assertIs(is_call(tuple(pairs)), False, bad)

    def test_whos_not_rising(self):
        for thing in (
            (("b", "a"), ("a", "b")), (("b", "b"), ("a", "a")), (("a", "a"), ("c", "c"), ("b", "b")),
            (("ab", "a"), ("a", "a")), (("c", "a"), ("a", "a"), ("b", "a")),
        ):
            self.assertIs(is_call(thing), False, thing)
            self.assertIs(is_call(tuple(sorted(thing))), True, thing)

    def test_a_who_twice(self):
        for thing in (
            (("a", "a"), ("a", "a")), (("a", "a"), ("a", "b"), ("b", "a")), (("a", "b"), ("b", "a"), ("b", "b")),
            (("a", "b"), ("a", "b"), ("b", "a")), (("a", "b"), ("b", "a"), ("a", "b")),
        ):
            self.assertIs(is_call(thing), False, thing)

    def test_a_whom_that_is_nobodys(self):
        for thing in (
            (("a", "b"),), (("b", "a"),), (("a", "b"), ("b", "c")), (("a", "c"), ("b", "a")),
            (("ab", "a"), ("b", "b")), (("abc", "ab"),), (("a", "ab"), ("b", "b")),
        ):
            self.assertIs(is_call(thing), False, thing)

    def test_parts_that_are_no_pairs(self):
        for part in (
            None, True, 0, 1, "", "a", "ab", "aa", (), ("a",), ("a", "a", "a"), ("a", "b", "a"), ["a", "a"], ["a", "b"],
            ("a", None), (None, "a"), ("a", 1), (1, "a"), ("a", True), ("a", ("a",)), (("a",), "a"), ("a", ["a"]),
            (["a"], "a"), ((), ()), ([], []), (("a", "a"),), (("a", "a"), ("a", "a")), ((("a", "a"),),),
        ):
            for thing in ((part,), (part, ("b", "b")), (("a", "a"), part), (("a", "a"), part, ("b", "b")), (part, part)):
                self.assertIs(is_call(thing), False, repr(thing))

    def test_nothings(self):
        for thing in NOTHINGS:
            self.assertIs(is_call(thing), False, repr(thing)[:80])

    def test_lists_are_no_calls(self):
        for call in CALLS:
            self.assertIs(is_call(list(call)), False)
            self.assertIs(is_call(as_lists(call)), False)
            self.assertIs(is_call(tuple(as_lists(call))), False)
            self.assertIs(is_call((list(call[0]),) + call[1:]), False)
            self.assertIs(is_call(call[:-1] + (list(call[-1]),)), False)
            self.assertIs(is_call((call,)), False)

    def test_rows_are_no_calls(self):
        for row in (("a",), ("a", "b"), ("ab", "ba"), ("aa", "bb"), tuple(PEOPLE)):
            self.assertIs(is_call(row), False)

    def test_whatever_size(self):
        many = ["".join(letters) for letters in itertools.product("abcdefghij", repeat=4)]
        call = tuple(zip(many, reversed(many)))
        self.assertIs(is_call(call), True)
        self.assertIs(is_call(call[1:]), False)
        self.assertIs(is_call(call[::-1]), False)
        self.assertIs(is_call(call + (("zz", "zzz"),)), False)
        self.assertIs(is_call((("a", "a"),) * 100000), False)

    def test_thing_is_not_changed(self):
        thing = [["b", "a"], ("a", ["b"])]
        is_call(thing)
        self.assertEqual(thing, [["b", "a"], ("a", ["b"])])


class People(unittest.TestCase):
    def test_by_hand(self):
        self.assertEqual(people((("a", "a"),)), ("a",))
        self.assertEqual(people(MIXED), ("a", "b", "c", "zz"))
        self.assertEqual(people(call=(("a", "c"), ("b", "c"), ("c", "c"))), ("a", "b", "c"))

    def test_all(self):
        for call in CALLS:
            wanted = tuple(sorted({name for pair in call for name in pair}))
            self.assertEqual(kinds(people(call)), kinds(wanted))
            self.assertEqual(kinds(people(as_lists(call))), kinds(wanted))


class Whom(unittest.TestCase):
    def test_all(self):
        for call in CALLS:
            for who, name in call:
                self.assertEqual(whom(call, who), name)
                self.assertEqual(whom(as_lists(call), who), name)

    def test_by_name_in_another_order(self):
        self.assertEqual(whom(name="c", call=MIXED), "zz")
        self.assertEqual(whom(MIXED, name="a"), "c")

    def test_no_name(self):
        for call in CALLS:
            there = [who for who, _ in call]
            for name in BAD_NAMES + [name for name in NAMES if name not in there]:
                self.assertEqual(refusal(NoName, whom, call, name).name, name)
        self.assertEqual(refusal(NoName, whom, as_lists(SWAP), name="ab").name, "ab")


class Stay(unittest.TestCase):
    def test_by_hand(self):
        self.assertEqual(stay(["a"]), (("a", "a"),))
        self.assertEqual(stay(["b", "c", "a"]), (("a", "a"), ("b", "b"), ("c", "c")))
        self.assertEqual(stay(names=("b", "ab", "a")), (("a", "a"), ("ab", "ab"), ("b", "b")))

    def test_all(self):
        for names in GROUPS_OF_NAMES:
            wanted = tuple(zip(sorted(names), sorted(names)))
            self.assertEqual(kinds(stay(names)), kinds(wanted))
            self.assertEqual(kinds(stay(tuple(names))), kinds(wanted))
            self.assertEqual(goers(stay(names)), [])


class AllTo(unittest.TestCase):
    def test_by_hand(self):
        self.assertEqual(all_to(["a"], "a"), (("a", "a"),))
        self.assertEqual(all_to(["b", "c", "a"], "b"), (("a", "b"), ("b", "b"), ("c", "b")))
        self.assertEqual(all_to(name="a", names=("b", "a")), (("a", "a"), ("b", "a")))

    def test_all(self):
        for names in GROUPS_OF_NAMES:
            for name in names:
                wanted = tuple((who, name) for who in sorted(names))
                self.assertEqual(kinds(all_to(names, name)), kinds(wanted))
                self.assertEqual(kinds(all_to(tuple(names), name)), kinds(wanted))

    def test_no_name(self):
        for names in GROUPS_OF_NAMES:
            for name in BAD_NAMES + [name for name in NAMES if name not in names]:
                self.assertEqual(refusal(NoName, all_to, names, name).name, name)
        self.assertEqual(refusal(NoName, all_to, name="ab", names=("a", "b")).name, "ab")


class Going(unittest.TestCase):
    def test_by_hand(self):
        self.assertEqual(going(["a"], "a", "a"), (("a", "a"),))
        self.assertEqual(going(["b", "c", "a"], "c", "a"), (("a", "a"), ("b", "b"), ("c", "a")))
        self.assertEqual(going(name="c", who="a", names=("b", "c", "a")), (("a", "c"), ("b", "b"), ("c", "c")))
        self.assertEqual(going(["b", "a"], "b", name="a"), (("a", "a"), ("b", "a")))

    def test_all(self):
        for names in GROUPS_OF_NAMES:
            for who, name in itertools.product(names, repeat=2):
                wanted = tuple((each, name if each == who else each) for each in sorted(names))
                self.assertEqual(kinds(going(names, who, name)), kinds(wanted))
                self.assertEqual(kinds(going(tuple(names), who, name)), kinds(wanted))

    def test_no_name_of_who_then_of_name(self):
        names = ["b", "c", "a"]
        for bad in BAD_NAMES + ["d", "ab", "zzzzzz"]:
            self.assertEqual(refusal(NoName, going, names, bad, "a").name, bad)
            self.assertEqual(refusal(NoName, going, names, "a", bad).name, bad)
            self.assertEqual(refusal(NoName, going, names, bad, bad).name, bad)
            self.assertEqual(refusal(NoName, going, names, bad, "q").name, bad)
            self.assertEqual(refusal(NoName, going, tuple(names), "q", bad).name, "q")
            self.assertEqual(refusal(NoName, going, name="q", who=bad, names=names).name, bad)


class CallOf(unittest.TestCase):
    def test_by_hand(self):
        names = ["b", "c", "a"]
        self.assertEqual(call_of(names, {}), (("a", "a"), ("b", "b"), ("c", "c")))
        self.assertEqual(call_of(["a"], {}), (("a", "a"),))
        self.assertEqual(call_of(["a"], {"a": "a"}), (("a", "a"),))
        self.assertEqual(call_of(names, {"c": "b"}), (("a", "a"), ("b", "b"), ("c", "b")))
        self.assertEqual(call_of(told={"c": "a", "a": "c"}, names=tuple(names)), (("a", "c"), ("b", "b"), ("c", "a")))
        self.assertEqual(call_of(names, {"b": "b"}), stay(names))

    def test_all(self):
        for call in CALLS:
            names = [who for who, _ in call]
            self.assertEqual(kinds(call_of(names, dict(call))), kinds(call))
            self.assertEqual(kinds(call_of(tuple(names[::-1]), dict(call[::-1]))), kinds(call))
            moving = {who: name for who, name in call if who != name}
            self.assertEqual(call_of(names, moving), call)
            half = dict(call[::2])
            wanted = tuple((who, half[who] if who in half else who) for who in names)
            self.assertEqual(call_of(names, half), wanted)

    def test_no_name_of_the_least_who(self):
        names = ["m", "n"]
        self.assertEqual(refusal(NoName, call_of, names, {"z": "m", "o": "m"}).name, "o")
        self.assertEqual(refusal(NoName, call_of, names, {"o": "m", "z": "m"}).name, "o")
        self.assertEqual(refusal(NoName, call_of, names, {"a": "n", "b": "m", "m": "m"}).name, "a")
        self.assertEqual(refusal(NoName, call_of, names, {"m": "n", "b": "m", "a": "m"}).name, "a")
        self.assertEqual(refusal(NoName, call_of, names, {"b": "m", "B": "m"}).name, "B")
        self.assertEqual(refusal(NoName, call_of, names, {"b": "m", "": "m"}).name, "")

    def test_no_name_of_who_ahead_of_whom(self):
        names = ("m", "n")
        self.assertEqual(refusal(NoName, call_of, names, {"m": "a", "z": "n"}).name, "z")
        self.assertEqual(refusal(NoName, call_of, names, {"z": "n", "m": "a"}).name, "z")
        self.assertEqual(refusal(NoName, call_of, names, {"z": "a"}).name, "z")
        self.assertEqual(refusal(NoName, call_of, names, {"m": "a", "z": "b", "y": "c"}).name, "y")

    def test_no_name_of_the_least_whom(self):
        names = ["m", "n"]
        self.assertEqual(refusal(NoName, call_of, names, {"m": "z", "n": "o"}).name, "o")
        self.assertEqual(refusal(NoName, call_of, names, {"n": "o", "m": "z"}).name, "o")
        self.assertEqual(refusal(NoName, call_of, names, {"m": "o", "n": "z"}).name, "o")
        self.assertEqual(refusal(NoName, call_of, names, {"m": "m", "n": "a"}).name, "a")
        self.assertEqual(refusal(NoName, call_of, names, {"m": "m", "n": "mn"}).name, "mn")
        self.assertEqual(refusal(NoName, call_of, told={"m": "Z", "n": "a"}, names=names).name, "Z")

    def test_no_name_of_any_text(self):
        for bad in BAD_NAMES:
            self.assertEqual(refusal(NoName, call_of, ["a", "b"], {bad: "a"}).name, bad)
            self.assertEqual(refusal(NoName, call_of, ["a", "b"], {"b": bad}).name, bad)

    def test_the_dict_is_not_changed_nor_kept(self):
        told = {"c": "a", "a": "b"}
        names = ["b", "c", "a"]
        call = call_of(names, told)
        self.assertEqual(list(told.items()), [("c", "a"), ("a", "b")])
        self.assertEqual(names, ["b", "c", "a"])
        told["a"] = "c"
        names.append("d")
        self.assertEqual(call, (("a", "b"), ("b", "b"), ("c", "a")))


class Groups(unittest.TestCase):
    def test_by_hand(self):
        self.assertEqual(groups((("a", "a"),)), [("a", ("a",))])
        self.assertEqual(groups(SWAP), [("a", ("b",)), ("b", ("a",))])
        self.assertEqual(groups(call=MIXED), [("b", ("b",)), ("c", ("a", "zz")), ("zz", ("c",))])
        self.assertEqual(groups(all_to(["c", "b", "a"], "b")), [("b", ("a", "b", "c"))])
        self.assertEqual(groups(stay(["b", "a"])), [("a", ("a",)), ("b", ("b",))])

    def test_all(self):
        for call in CALLS:
            wanted = []
            for name in sorted({name for _, name in call}):
                wanted.append((name, tuple(sorted(who for who, told in call if told == name))))
            self.assertEqual(kinds(groups(call)), kinds(wanted))
            self.assertEqual(kinds(groups(as_lists(call))), kinds(wanted))

    def test_the_list_is_the_askers_own(self):
        told = groups(MIXED)
        told.clear()
        self.assertEqual(groups(MIXED), [("b", ("b",)), ("c", ("a", "zz")), ("zz", ("c",))])
        self.assertIsNot(groups(MIXED), groups(MIXED))


class Goers(unittest.TestCase):
    def test_by_hand(self):
        self.assertEqual(goers((("a", "a"),)), [])
        self.assertEqual(goers(SWAP), ["a", "b"])
        self.assertEqual(goers(call=MIXED), ["a", "c", "zz"])
        self.assertEqual(goers(all_to(["c", "b", "a"], "b")), ["a", "c"])

    def test_all(self):
        for call in CALLS:
            wanted = sorted(who for who, name in call if not who == name)
            self.assertEqual(kinds(goers(call)), kinds(wanted))
            self.assertEqual(kinds(goers(as_lists(call))), kinds(wanted))

    def test_the_list_is_the_askers_own(self):
        for call in (MIXED, stay(["a", "b"])):
            wanted = [who for who, name in call if who != name]
            told = goers(call)
            told.append("z")
            self.assertEqual(goers(call), wanted)
            self.assertIsNot(goers(call), goers(call))


class Everything(unittest.TestCase):
    def test_no_call_handed_in_is_changed(self):
        for call in CALLS:
            handed = as_lists(call)
            is_call(handed)
            people(handed)
            whom(handed, call[0][0])
            groups(handed)
            goers(handed)
            refusal(NoName, whom, handed, "nobody")
            self.assertEqual(handed, as_lists(call))

    def test_no_names_handed_in_are_changed(self):
        for names in GROUPS_OF_NAMES:
            handed = list(names)
            stay(handed)
            all_to(handed, names[0])
            going(handed, names[0], names[-1])
            call_of(handed, {names[0]: names[-1]})
            refusal(NoName, all_to, handed, "nobody")
            refusal(NoName, going, handed, names[0], "nobody")
            refusal(NoName, call_of, handed, {"nobody": names[0]})
            self.assertEqual(handed, names)

    def test_a_change_behind_is_not_seen(self):
        names = ["b", "a"]
        told = [stay(names), all_to(names, "b"), going(names, "a", "b")]
        call = as_lists(MIXED)
        told += [people(call), groups(call), goers(call)]
        names.append("c")
        for pair in call:
            pair.reverse()
        call.clear()
        self.assertEqual(told, [
            (("a", "a"), ("b", "b")), (("a", "b"), ("b", "b")), (("a", "b"), ("b", "b")),
            ("a", "b", "c", "zz"), [("b", ("b",)), ("c", ("a", "zz")), ("zz", ("c",))], ["a", "c", "zz"],
        ])

    def test_what_is_told_is_a_call(self):
        for names in GROUPS_OF_NAMES:
            one, other = names[0], names[-1]
            for call in (stay(names), all_to(names, one), going(names, one, other), call_of(names, {other: one})):
                self.assertIs(is_call(call), True, call)
                self.assertEqual(people(call), tuple(sorted(names)))

    def test_groups_and_goers_hang_together(self):
        for call in CALLS:
            comers = [who for _, whos in groups(call) for who in whos]
            self.assertEqual(sorted(comers), list(people(call)))
            self.assertEqual(call_of(people(call), {who: whom(call, who) for who in goers(call)}), call)


if __name__ == "__main__":
    unittest.main()
