import inspect
import random
import unittest

from standby import square as module
from standby.calling import called
from standby.calls import call_of, stay
from standby.errors import BadDeed, Known, Last, NoDeed, NoName, NoPlace
from standby.rows import is_row
from standby.square import Square
from standby.tables import Table
from standby.words import called_all, is_word

from samples import BAD_NAMES, FAR_NUMBERS, NAMES, NOTHINGS, PEOPLE, kinds, mixed_call, refusal, shuffles

ABC = ("a", "b", "c")
DEEDS = ("call", "come", "leave", "change")


def told_all(square):
    """All that a square tells but its marks."""
    return {
        "stands": square.stands(), "word": square.word(), "begun": square.begun(), "deeds": square.deeds(),
        "len": len(square), "str": str(square),
    }


def do_deed(square, deed):
    """Do one deed by the method of its name."""
    return getattr(square, deed[0])(*deed[1:])


def made_anew(row, deeds):
    """A square of this row to which just these deeds were done."""
    square = Square(row)
    for deed in deeds:
        do_deed(square, deed)
    return square


def row_behind(row, deed):
    """The ROW behind one deed, by the words of [16]."""
    row = list(row)
    word, *things = deed
    if word == "call":
        return called(row, call_of(row, dict(things[0])))
    if word == "come":
        place = things[1] if len(things) == 2 and things[1] is not None else len(row)
        row.insert(place, things[0])
    elif word == "leave":
        row.remove(things[0])
    else:
        one, other = things
        row = [other if name == one else one if name == other else name for name in row]
    return tuple(row)


def any_deed(row, chance):
    """A deed that is right for this row."""
    word = chance.choice(DEEDS + ("call",) * 4)
    if word == "call":
        call = [pair for pair in mixed_call(row, chance) if pair[0] != pair[1] or chance.randrange(2)]
        chance.shuffle(call)
        return ("call", dict(call) if chance.randrange(2) else call)
    others = [name for name in PEOPLE if name not in row]
    if word == "come" and others:
        place = chance.choice([(), (None,), (chance.randrange(len(row) + 1),), (0,), (len(row),)])
        return ("come", chance.choice(others)) + place
    if word == "leave" and len(row) > 1:
        return ("leave", chance.choice(row))
    return ("change", chance.choice(row), chance.choice(row))


def bad_deed(row, chance):
    """A deed that is refused of this row, by which class, with what field."""
    some, other = chance.choice(row), [name for name in NAMES + BAD_NAMES if name not in row]
    nobody, more = chance.choice(other), chance.choice(other)
    far = chance.choice([-1, len(row) + 1] + FAR_NUMBERS)
    return chance.choice([
        (("call", {nobody: some}), NoName, nobody), (("call", [(some, nobody)]), NoName, nobody),
        (("call", [(nobody, more)]), NoName, nobody), (("come", some), Known, some),
        (("come", some, far), Known, some), (("come", "zyx", far), NoPlace, far), (("leave", nobody), NoName, nobody),
        (("change", nobody, more), NoName, nobody), (("change", some, nobody), NoName, nobody),
        (("change", nobody, nobody), NoName, nobody),
    ])


def field(error):
    return list(vars(error).values())


class Interface(unittest.TestCase):
    def test_names_of_arguments(self):
        self.assertEqual((Square.__module__, vars(module)["Square"]), (module.__name__, Square))
        self.assertEqual(list(inspect.signature(Square).parameters), ["row"])
        wanted = {
            "call": ["told"], "come": ["name", "place"], "leave": ["name"], "change": ["one", "other"], "undo": [],
            "do": ["deeds", "whole"], "stands": [], "word": [], "table": [], "begun": [], "deeds": [],
            "as_of": ["many"], "twin": [], "marks": [],
        }
        for name, arguments in wanted.items():
            signature = inspect.signature(vars(Square)[name])
            self.assertEqual(list(signature.parameters), ["self"] + arguments)
        self.assertIsNone(inspect.signature(Square.come).parameters["place"].default)
        whole = inspect.signature(Square.do).parameters["whole"]
        self.assertEqual((whole.default, whole.kind), (True, inspect.Parameter.KEYWORD_ONLY))
        self.assertLessEqual({"__init__", "__len__", "__eq__", "__str__"}, set(vars(Square)))

    def test_arguments_by_name_in_another_order(self):
        square = Square(row=["a", "b"])
        self.assertEqual(square.call(told={"a": "b", "b": "a"}), ("b", "a"))
        self.assertIsNone(square.come(place=0, name="c"))
        self.assertIsNone(square.change(other="c", one="a"))
        self.assertEqual(square.stands(), ("a", "b", "c"))
        self.assertEqual(square.leave(name="b"), 1)
        self.assertEqual(square.do(whole=False, deeds=[("leave", "a")]), [0])
        self.assertEqual(square.as_of(many=2).stands(), ("c", "b", "a"))


class MadeNew(unittest.TestCase):
    def test_a_new_one(self):
        for row in [("a",)] + shuffles(PEOPLE, 2, 1) + [ABC]:
            for handed in (row, list(row)):
                square = Square(handed)
                self.assertEqual(kinds(square.stands()), kinds(row))
                self.assertEqual((square.word(), square.begun(), square.deeds(), square.marks()), ([], row, 0, []))
                self.assertEqual(square.table(), Table(row, []))
                self.assertEqual((len(square), str(square)), (len(row), " ".join(row)))
                self.assertIs(square.undo(), False)
                self.assertEqual(square.stands(), row)

    def test_what_is_handed_in_is_not_kept(self):
        row = ["b", "a"]
        square = Square(row)
        row.append("c")
        self.assertEqual(square.stands(), ("b", "a"))
        self.assertEqual(row, ["b", "a", "c"])
        told, pairs = {"a": "b"}, [["b", "a"], ["a", "b"]]
        square.call(told)
        square.call(pairs)
        word = square.word()
        self.assertEqual((told, pairs), ({"a": "b"}, [["b", "a"], ["a", "b"]]))
        told["b"] = "a"
        pairs[0][1] = "b"
        pairs.clear()
        self.assertEqual(square.word(), word)
        deeds = [("call", {"a": "b"}), ("come", "c")]
        square.do(deeds)
        self.assertEqual(deeds, [("call", {"a": "b"}), ("come", "c")])
        deeds[0][1].clear()
        deeds.clear()
        square.undo()
        self.assertEqual(square.word(), word + [call_of(["a", "b"], {"a": "b"})])
        self.assertEqual(square.marks(), [("in", 2), "call", "come", ("out", 2)])

    def test_two_squares_of_one_row_are_apart(self):
        row = ["a", "b", "c"]
        one, other = Square(row), Square(row)
        one.call({"a": "c"})
        one.come("d")
        one.do([("leave", "a")])
        self.assertEqual(told_all(other), told_all(Square(row)))
        self.assertEqual(other.marks(), [])


class Call(unittest.TestCase):
    def test_of_no_pair(self):
        for told in ({}, [], ()):
            square = Square(ABC)
            self.assertEqual(kinds(square.call(told)), kinds(ABC))
            self.assertEqual(square.word(), [stay(ABC)])
            self.assertEqual(square.deeds(), 1)

    def test_dicts_and_lists_of_pairs(self):
        wanted = call_of(ABC, {"c": "a", "b": "c"})
        for told in ({"c": "a", "b": "c"}, [("c", "a"), ("b", "c")], [["b", "c"], ["c", "a"]], (("b", "c"), ("c", "a")),
                     [("b", "c"), ("c", "a"), ("a", "a")], wanted):
            square = Square(ABC)
            self.assertEqual(kinds(square.call(told)), kinds(called(ABC, wanted)))
            self.assertEqual(kinds(square.word()), kinds([wanted]))

    def test_many(self):
        chance = random.Random(2)
        for row in shuffles(PEOPLE, 3, 2):
            square = Square(row)
            word = [mixed_call(row, chance) for _ in range(40)]
            for at, call in enumerate(word):
                self.assertEqual(square.call(dict(call)), called_all(row, word[:at + 1]))
            self.assertEqual(kinds(square.word()), kinds(word))
            self.assertEqual((square.begun(), square.deeds()), (row, 40))
            self.assertEqual(square.table(), Table(row, word))

    def test_no_name_pair_by_pair_who_ahead_of_whom(self):
        for told, name in (
            ({"z": "a", "y": "a"}, "z"), ({"y": "a", "z": "a"}, "y"), ({"a": "z", "y": "a"}, "z"),
            ({"y": "a", "a": "z"}, "y"), ({"z": "y"}, "z"), ([("a", "z"), ("b", "y")], "z"),
            ([("b", "y"), ("a", "z")], "y"), ([("a", "b"), ("z", "y")], "z"), ([["a", "b"], ["b", "y"], ["z", "a"]], "y"),
            ((("a", "b"), ("b", "c"), ("c", "d")), "d"), ({"a": "b", "b": "c", "d": "c"}, "d"),
        ):
            square = Square(ABC)
            self.assertEqual(refusal(NoName, square.call, told).name, name)
            self.assertEqual(told_all(square), told_all(Square(ABC)))
        for bad in BAD_NAMES + ["aa", "zzzzzz"]:
            for told in ({bad: "a"}, {"a": bad}, [("a", bad)], [(bad, bad)]):
                self.assertEqual(refusal(NoName, Square(ABC).call, told).name, bad)


class ComeAndLeave(unittest.TestCase):
    def test_places(self):
        for place, row in ((0, ("d",) + ABC), (1, ("a", "d", "b", "c")), (2, ("a", "b", "d", "c")), (3, ABC + ("d",)),
                           (None, ABC + ("d",))):
            square = Square(ABC)
            self.assertIsNone(square.come("d", place))
            self.assertEqual(kinds(square.stands()), kinds(row))
        square = Square(ABC)
        self.assertIsNone(square.come("d"))
        self.assertEqual(square.stands(), ABC + ("d",))
        self.assertEqual((len(square), square.deeds(), square.word(), square.begun()), (4, 1, [], ABC + ("d",)))

    def test_known_then_no_place(self):
        for place in [-1, 4, -4, 25] + FAR_NUMBERS:
            square = Square(ABC)
            for name in ABC:
                self.assertEqual(refusal(Known, square.come, name, place).name, name)
            self.assertEqual(refusal(NoPlace, square.come, "d", place).place, place)
            self.assertEqual(refusal(NoPlace, square.come, place=place, name="d").place, place)
            self.assertEqual(told_all(square), told_all(Square(ABC)))
        for name in ABC:
            self.assertEqual(refusal(Known, Square(ABC).come, name).name, name)
            self.assertEqual(refusal(Known, Square(ABC).come, name, None).name, name)

    def test_leave(self):
        for place, name in enumerate(ABC):
            square = Square(ABC)
            self.assertEqual(kinds(square.leave(name)), ("int", place))
            self.assertEqual(square.stands(), ABC[:place] + ABC[place + 1:])
            self.assertEqual((square.deeds(), square.word(), square.begun()), (1, [], square.stands()))

    def test_no_name_then_last(self):
        for row in (("a",), ABC):
            for bad in BAD_NAMES + ["d", "aa"]:
                square = Square(row)
                self.assertEqual(refusal(NoName, square.leave, bad).name, bad)
                self.assertEqual(told_all(square), told_all(Square(row)))
        square = Square(["a"])
        self.assertEqual(field(refusal(Last, square.leave, "a")), [])
        self.assertEqual(told_all(square), told_all(Square(["a"])))
        square.come("b", 0)
        self.assertEqual(square.leave("a"), 1)
        refusal(Last, square.leave, "b")

    def test_all_leave_and_come_again(self):
        square = Square(PEOPLE)
        for name in PEOPLE[1:]:
            self.assertEqual(square.leave(name), 1)
        for name in PEOPLE[1:]:
            square.come(name, 0)
        self.assertEqual(square.stands(), tuple(PEOPLE[::-1]))
        self.assertEqual(square.deeds(), 46)
        while square.undo():
            pass
        self.assertEqual(told_all(square), told_all(Square(PEOPLE)))


class Change(unittest.TestCase):
    def test_two(self):
        for one in PEOPLE[::5]:
            for other in PEOPLE:
                square = Square(PEOPLE)
                self.assertIsNone(square.change(one, other))
                wanted = [other if name == one else one if name == other else name for name in PEOPLE]
                self.assertEqual(kinds(square.stands()), kinds(tuple(wanted)))
                self.assertEqual(square.deeds(), 1)

    def test_one_and_the_same_is_a_deed(self):
        square = Square(ABC)
        square.call({"a": "b", "b": "a"})
        self.assertIsNone(square.change("b", "b"))
        self.assertEqual((square.stands(), square.word(), square.begun()), (("b", "a", "c"), [], ("b", "a", "c")))
        self.assertEqual(square.deeds(), 2)
        self.assertIs(square.undo(), True)
        self.assertEqual(len(square.word()), 1)
        self.assertEqual(square.begun(), ABC)

    def test_no_name_of_one_then_of_other(self):
        for bad in BAD_NAMES + ["d", "aa"]:
            square = Square(ABC)
            self.assertEqual(refusal(NoName, square.change, bad, "a").name, bad)
            self.assertEqual(refusal(NoName, square.change, "a", bad).name, bad)
            self.assertEqual(refusal(NoName, square.change, bad, "q").name, bad)
            self.assertEqual(refusal(NoName, square.change, other=bad, one="q").name, "q")
            self.assertEqual(told_all(square), told_all(Square(ABC)))


class Do(unittest.TestCase):
    GOOD = [("call", {"a": "c"}), ("come", "d"), ("come", "e", 0), ("come", "f", None), ("leave", "a"),
            ("change", "e", "b"), ("call", [("b", "e"), ["e", "b"]])]
    BAD = [(("leave", "zz"), NoName, "zz"), (("come", "b"), Known, "b"), (("come", "x", 99), NoPlace, 99),
           (("call", {"b": "zz"}), NoName, "zz"), (("change", "b", "zz"), NoName, "zz")]

    def test_no_deed(self):
        for deeds in ([], ()):
            square = Square(ABC)
            self.assertEqual(kinds(square.do(deeds)), kinds([]))
            self.assertEqual(square.do(deeds, whole=False), [])
            self.assertEqual(square.marks(), [("in", 0), ("out", 0)] * 2)
            self.assertEqual(told_all(square), told_all(Square(ABC)))

    def test_what_they_tell(self):
        for whole in (True, False):
            for deeds in (self.GOOD, tuple(self.GOOD)):
                square, other = Square(ABC), Square(ABC)
                wanted = [do_deed(other, deed) for deed in deeds]
                self.assertEqual(kinds(square.do(deeds, whole=whole)), kinds(wanted))
                self.assertEqual(told_all(square), told_all(other))
                self.assertEqual(square.deeds(), 7)
                self.assertEqual(square.marks(), [("in", 7), "call", "come", "come", "come", "leave", "change", "call",
                                                  ("out", 7)])
        self.assertEqual(Square(ABC).do(self.GOOD), [
            ("b", "a", "c"), None, None, None, 2, None, ("e", "b", "c", "d", "f")])

    def test_each_is_undone_by_itself(self):
        square = Square(ABC)
        square.do(self.GOOD)
        for many in range(6, -1, -1):
            self.assertIs(square.undo(), True)
            self.assertEqual(told_all(square), told_all(made_anew(ABC, self.GOOD[:many])))
        self.assertIs(square.undo(), False)
        self.assertEqual(len(square.marks()), 9)

    def test_refused_first_between_and_last(self):
        for bad, kind, wrong in self.BAD:
            for at in range(len(self.GOOD) + 1):
                self.check_refused(self.GOOD[:at] + [bad] + self.GOOD[at:], at, kind, wrong)

    def check_refused(self, deeds, at, kind, wrong):
        marks = [("in", 8)] + [deed[0] for deed in deeds[:at]] + [("out", at)]
        for whole in (True, False):
            square = Square(["c", "b", "a"])
            square.change("a", "c")
            error = refusal(kind, square.do, deeds, whole=whole)
            self.assertEqual(field(error), [wrong])
            stand = [("change", "a", "c")] + ([] if whole else deeds[:at])
            self.assertEqual(told_all(square), told_all(made_anew(["c", "b", "a"], stand)))
            self.assertEqual(kinds(square.marks()), kinds(marks))
            self.assertEqual(square.do([("call", {})]), [square.stands()])
            self.assertEqual(square.marks(), marks + [("in", 1), "call", ("out", 1)])

    def test_whole_is_left_out(self):
        square = Square(ABC)
        refusal(NoName, square.do, [("leave", "a"), ("leave", "a")])
        self.assertEqual(square.stands(), ABC)
        refusal(Last, square.do, [("leave", "a"), ("leave", "b"), ("leave", "c")])
        self.assertEqual(square.stands(), ABC)
        refusal(Last, square.do, [("leave", "a"), ("leave", "b"), ("leave", "c")], whole=False)
        self.assertEqual(square.stands(), ("c",))

    def test_bad_deeds(self):
        bad = [
            ["call", {}], ["leave", "a"], ["come", "d"], ["change", "a", "b"], [("leave", "a")], (), [], None, True, 0,
            "call", "leave a", "", ("call",), ("come",), ("leave",), ("change",), ("change", "a"), ("call", {}, {}),
            ("come", "d", 0, 0), ("leave", "a", "b"), ("change", "a", "b", "c"), ("undo",), ("undo", "a"),
            ("do", []), ("do", [], True), ("Call", {}), ("stands",), ("", "a"), ("a", "leave"), (None, "a"), (0, "a"),
            (True, "a"), (("call",), {}), (["call"], {}), (["leave"], "a"), ({}, "a"), (("leave", "a"),), {"leave": "a"},
            ("call ", {}), ("calls", {}), ("keep", "a", "b"), ("twin",), ("as_of", 0),
        ] + [thing for thing in NOTHINGS if not isinstance(thing, tuple) or thing[:1] not in [(word,) for word in DEEDS]]
        for deed in bad:
            for at in range(3):
                good = [("leave", "a"), ("come", "a"), ("call", {})]
                for deeds in (good[:at] + [deed], good[:at] + [deed] + good, good[:at] + [deed, deed]):
                    for whole in (True, False):
                        square = Square(ABC)
                        self.assertEqual(refusal(BadDeed, square.do, deeds, whole=whole).at, at, deed)
                        self.assertEqual(refusal(BadDeed, square.do, tuple(deeds), whole=whole).at, at, deed)
                        self.assertEqual(told_all(square), told_all(Square(ABC)))
                        self.assertEqual(square.marks(), [])

    def test_bad_deed_ahead_of_all(self):
        square = Square(ABC)
        self.assertEqual(refusal(BadDeed, square.do, [("leave", "zz"), ("come", "a"), ("fly", "a")]).at, 2)
        self.assertEqual(refusal(BadDeed, square.do, [("leave", "zz"), ["leave", "a"]], whole=False).at, 1)
        self.assertEqual(square.marks(), [])
        refusal(NoName, square.do, [("leave", "zz"), ("come", "a")])
        self.assertEqual(square.marks(), [("in", 2), ("out", 0)])

    def test_twelve(self):
        square = Square(["a"])
        self.assertEqual(square.do([("come", name, 0) for name in PEOPLE[1:13]]), [None] * 12)
        self.assertEqual(square.stands(), tuple(PEOPLE[12::-1]))


class Asked(unittest.TestCase):
    def test_word_and_begun_right_behind_other_deeds(self):
        for deed in (("come", "d"), ("come", "d", 0), ("leave", "a"), ("change", "a", "c"), ("change", "a", "a")):
            square = Square(ABC)
            square.call({"a": "b"})
            square.call({"b": "c", "c": "b"})
            word = square.word()
            do_deed(square, deed)
            self.assertEqual((square.word(), square.begun()), ([], square.stands()))
            self.assertEqual(square.table(), Table(square.stands(), []))
            behind = square.stands()
            square.call({"b": "c"})
            self.assertEqual((square.word(), square.begun()), ([call_of(behind, {"b": "c"})], behind))
            square.undo()
            self.assertEqual((square.word(), square.begun()), ([], behind))
            square.undo()
            self.assertEqual((square.word(), square.begun()), (word, ABC))
            square.call({})
            self.assertEqual((square.word(), square.begun()), (word + [stay(ABC)], ABC))

    def test_as_of(self):
        deeds = Do.GOOD + [("call", {"b": "c"}), ("call", {})]
        square = made_anew(ABC, deeds)
        refusal(NoName, square.do, [("leave", "zz")])
        for many in range(len(deeds) + 1):
            made = square.as_of(many)
            self.assertIsInstance(made, Square)
            self.assertEqual(told_all(made), told_all(made_anew(ABC, deeds[:many])))
            self.assertEqual(made.marks(), [])
            for left in range(many - 1, -1, -1):
                self.assertIs(made.undo(), True)
                self.assertEqual(told_all(made), told_all(made_anew(ABC, deeds[:left])))
            self.assertIs(made.undo(), False)
        self.assertEqual(told_all(square), told_all(made_anew(ABC, deeds)))

    def test_as_of_is_a_square_of_its_own(self):
        square = made_anew(ABC, Do.GOOD)
        wanted = told_all(square)
        for made in (square.as_of(3), square.twin(), square.as_of(7), square.as_of(0)):
            made.come("q")
            made.call({"q": "b"})
            made.do([("leave", "c")])
            made.undo()
            self.assertEqual(told_all(square), wanted)
            self.assertEqual(square.marks(), [])
        twin = square.twin()
        square.do([("leave", "b"), ("call", {})])
        square.undo()
        self.assertEqual((told_all(twin), twin.marks()), (wanted, []))

    def test_no_deed(self):
        for deeds in ([], Do.GOOD):
            square = made_anew(ABC, deeds)
            for many in [-1, -2, len(deeds) + 1, len(deeds) + 2] + FAR_NUMBERS:
                self.assertEqual(refusal(NoDeed, square.as_of, many).many, many)
            self.assertEqual(told_all(square), told_all(made_anew(ABC, deeds)))
        square.undo()
        self.assertEqual(refusal(NoDeed, square.as_of, 7).many, 7)

    def test_twin(self):
        square = made_anew(ABC, Do.GOOD)
        square.do([("call", {})])
        twin = square.twin()
        self.assertEqual(told_all(twin), told_all(square))
        self.assertEqual(twin, square)
        self.assertEqual(twin.marks(), [])
        self.assertEqual(square.marks(), [("in", 1), "call", ("out", 1)])

    def test_marks_behind_undo_and_refused_ones(self):
        square = Square(ABC)
        square.call({})
        square.undo()
        refusal(NoName, square.leave, "z")
        self.assertEqual(square.marks(), [])
        square.do([("leave", "a"), ("come", "a", 0)])
        marks = [("in", 2), "leave", "come", ("out", 2)]
        square.undo()
        self.assertEqual(square.marks(), marks)
        refusal(Known, square.do, [("call", {}), ("come", "b"), ("call", {})])
        marks += [("in", 3), "call", ("out", 1)]
        self.assertEqual(square.marks(), marks)
        refusal(Known, square.do, [("call", {}), ("come", "b"), ("call", {})], whole=False)
        marks += [("in", 3), "call", ("out", 1)]
        while square.undo():
            pass
        refusal(BadDeed, square.do, [("call", {}), ["call", {}]])
        self.assertEqual(kinds(square.marks()), kinds(marks))
        self.assertEqual(square.twin().marks(), [])
        self.assertEqual(square.as_of(0).marks(), [])

    def test_equal(self):
        square = Square(ABC)
        self.assertIs(square == Square(["a", "b", "c"]), True)
        self.assertIs(square != Square(["a", "b", "c"]), False)
        for other in (Square(["a", "c", "b"]), Square(["a", "b"]), Square(["a", "b", "c", "d"]), ABC, list(ABC), "a b c",
                      None, True, 3, Table(ABC, []), {}, object()):
            self.assertIs(square == other, False)
            self.assertIs(other == square, False)
            self.assertIs(square != other, True)
        # Deeds and marks are not looked at, the row alone is.
        other = Square(["b", "a", "c"])
        other.do([("change", "a", "b")])
        self.assertIs(square == other, True)

    def test_told_lists_are_the_askers_own(self):
        square = made_anew(ABC, [("call", {"a": "b"}), ("call", {})])
        told = square.do([("call", {}), ("call", {"b": "a"})])
        word, marks = square.word(), square.marks()
        told.clear()
        word.clear()
        marks.append("x")
        self.assertEqual(len(square.word()), 4)
        self.assertEqual(square.marks(), [("in", 2), "call", "call", ("out", 2)])
        self.assertIsNot(square.word(), square.word())
        self.assertIsNot(square.marks(), square.marks())
        self.assertIs(is_word(square.word()) and is_row(square.begun()) and is_row(square.stands()), True)

    def test_a_told_table_is_not_changed_behind(self):
        square = Square(ABC)
        square.call({"a": "b", "b": "a"})
        table = square.table()
        square.call({"a": "c"})
        square.come("d")
        self.assertEqual(table, Table(ABC, [call_of(ABC, {"a": "b", "b": "a"})]))


class ManyDeeds(unittest.TestCase):
    """Promise (h) of [1]."""

    def test_many(self):
        for seed, many in enumerate((1, 1, 2, 3, 3, 5, 8, 12, 24, 24)):
            self.play(tuple(shuffles(PEOPLE[:many], 1, seed)[0]), random.Random(seed))

    def play(self, row, chance):
        square, first, stand, marks = Square(row), row, [], []
        for _ in range(90):
            way = chance.randrange(8)
            row = square.stands()
            if way < 3 and len(stand) < 80:
                deed = any_deed(row, chance)
                answer = do_deed(square, deed)
                stand = stand + [deed]
                self.check_answer(row, deed, answer)
            elif way == 3:
                deed, kind, wrong = bad_deed(row, chance)
                self.assertEqual(field(refusal(kind, getattr(square, deed[0]), *deed[1:])), [wrong])
            elif way < 6:
                self.assertIs(square.undo(), len(stand) > 0)
                stand = stand[:-1]
            elif len(stand) < 70:
                stand, marks = self.do_many(square, stand, marks, chance)
            self.check(square, first, stand, marks)

    def check_answer(self, row, deed, answer):
        wanted = {"call": row_behind(row, deed), "leave": row.index(deed[1]) if deed[0] == "leave" else None}
        self.assertEqual(kinds(answer), kinds(wanted.get(deed[0])))

    def do_many(self, square, stand, marks, chance):
        row, deeds = square.stands(), []
        for _ in range(chance.randrange(6)):
            deeds.append(any_deed(row, chance))
            row = row_behind(row, deeds[-1])
        marks = marks + [("in", len(deeds))] + [deed[0] for deed in deeds] + [("out", len(deeds))]
        if chance.randrange(2):
            self.assertEqual(len(square.do(deeds, whole=bool(chance.randrange(2)))), len(deeds))
            return stand + deeds, marks
        bad, kind, wrong = bad_deed(row, chance)
        behind = [("call", {})] * chance.randrange(3)
        whole = bool(chance.randrange(2))
        error = refusal(kind, square.do, deeds + [bad] + behind, whole=whole)
        self.assertEqual(field(error), [wrong])
        marks[-2 - len(deeds)] = ("in", len(deeds) + 1 + len(behind))
        return (stand if whole else stand + deeds), marks

    def check(self, square, first, stand, marks):
        anew = made_anew(first, stand)
        self.assertEqual(told_all(square), told_all(anew))
        self.assertEqual(square, anew)
        self.assertEqual(square.marks(), marks)
        self.assertEqual(square.deeds(), len(stand))
        rows = [first]
        for deed in stand:
            rows.append(row_behind(rows[-1], deed))
        self.assertEqual(square.stands(), rows[-1])
        calls = len(stand)
        while calls > 0 and stand[calls - 1][0] == "call":
            calls -= 1
        self.assertEqual(square.begun(), rows[calls])
        self.assertEqual(square.word(), [call_of(rows[-1], dict(deed[1])) for deed in stand[calls:]])
        self.assertEqual(called_all(square.begun(), square.word()), square.stands())
        if len(stand) % 7 == 3:
            self.assertEqual(square.table(), Table(rows[-1], square.word()))
            self.assertEqual(square.table().leads(square.begun()), square.stands())
            many = len(stand) // 2
            self.assertEqual(told_all(square.as_of(many)), told_all(made_anew(first, stand[:many])))


if __name__ == "__main__":
    unittest.main()
