import inspect
import random
import unittest

from standby import desk
from standby.between import call_of_fewest, calls_many
from standby.calls import call_of, stay
from standby.desk import answers
from standby.errors import BadRow, Never
from standby.far import comes_round, far
from standby.few import fewest_calls
from standby.had import ends_many, had
from standby.square import Square
from standby.texts import call_in, call_text, row_text, word_text
from standby.walkers import pair_of

from samples import BAD_NAMES, PEOPLE, kinds, many_words, mixed_call, refusal, ring_call, shuffles

FIRST = "c a b"
# A row of each word of [19], rightly written, with its answer by a square of FIRST.
ONES = [
    ("call a>c", "c a b"), ("call a>c c>a", "a c b"), ("call -", "c a b"), ("call a>b b>c c>a", "b c a"),
    ("change a b", "c b a"), ("change a a", "c a b"), ("come d", "c a b d"), ("come d 0", "d c a b"),
    ("come d 1", "c d a b"), ("come d 3", "c a b d"), ("leave c", "0"), ("leave b", "2"), ("undo", "nothing"),
    ("row", "c a b"), ("place c", "0"), ("place b", "2"),
    ("far 0 a>b", "c a b"), ("far 1 a>b b>c c>a", "b c a"), ("far 1000000000000 a>b b>c c>a", "b c a"),
    ("far 9999999999999 a>b b>c c>a", "c a b"), ("far 2 a>b b>c c>a, a>b b>c c>a", "b c a"), ("far 5 -", "c a b"),
    ("round -", "0 1"), ("round a>b b>c c>a", "0 3"), ("round a>c c>a", "0 2"),
    ("pair a b -", "a b"), ("pair a b a>c", "c b"), ("pair b a a>c, b>c", "c a"),
    ("had -", "c a b"), ("had a>b b>c c>a", "a b c"), ("had a>b", "a c b"), ("ends -", "6"), ("ends a>b b>b", "refused BadText"),
    ("ends a>b c>b", "6"), ("ends a>c b>c", "6"), ("ends a>b", "4"),
    ("many c a b", "10"), ("many b a c", "1"), ("many a c b", "4"),
    ("least c a b", "-"), ("least b a c", "b>c c>b"), ("few 2 c a b", "0"), ("few 2 a c b", "1"), ("few 2 b a c", "2"),
    ("few 3 b a c", "1"), ("few 9999999999999 b a c", "1"),
]
REFUSED = [
    ("come a", "Known"), ("come a 0", "Known"), ("come a 9", "Known"), ("come d 4", "NoPlace"),
    ("come d 9999999999999", "NoPlace"), ("leave d", "NoName"), ("change d a", "NoName"), ("change a d", "NoName"),
    ("place d", "NoName"), ("place aa", "NoName"),
    ("call d>a", "BadText"), ("call a>d", "BadText"), ("call a>a", "BadText"), ("call  ", "BadText"),
    ("call  a>b", "BadText"), ("call a>b ", "BadText"), ("call a>b  b>a", "BadText"), ("call - -", "BadText"),
    ("call b>a a>b", "BadText"), ("call a>b, b>a", "BadText"), ("call ~", "BadText"), ("call A>b", "BadText"),
    ("far 3  a>b", "BadText"), ("far 0 x", "BadText"), ("far 3 a>b,", "BadText"), ("far 3 a>b, ", "BadText"),
    ("far 3 3 a>b", "BadText"), ("round x", "BadText"), ("round  ", "BadText"), ("round a>b,b>a", "BadText"),
    ("had d>a", "BadText"), ("had  -", "BadText"), ("ends a", "BadText"), ("ends  ", "BadText"),
    ("pair a b x", "BadText"), ("pair a b  ", "BadText"), ("pair a b  -", "BadText"), ("pair a b a b", "BadText"),
    ("pair d a -", "NoName"), ("pair a d -", "NoName"), ("pair d d -", "NoName"), ("pair d a x", "NoName"),
    ("pair a d x", "NoName"), ("pair d d  ", "NoName"), ("pair a a -", "Alike"), ("pair a a x", "Alike"),
    ("pair b b  ", "Alike"),
    ("had b>c", "Never"),
    ("many c a", "Unlike"), ("many c a b d", "Unlike"), ("many c a d", "Unlike"), ("least d", "Unlike"),
    ("least c a b d", "Unlike"), ("few 2 c a", "Unlike"), ("few 3 d e f", "Unlike"),
]
BAD = [
    "", " ", "  ", "x", "Row", "ROW", "row ", " row", "row a", "rows", "undo ", " undo", "undo undo", "undo 1", "-",
    "call", "call ", "callx -", " call -", "Call -", "change", "change ", "change a", "change a ", "change a b ",
    "change a  b", "change  a b", "change a b c", "change a B", "change abcdefg a", "change a -", "change ab",
    "come", "come ", "come a ", "come  a", "come A", "come abcdefg", "come d 00", "come d 01", "come d -1", "come d +1",
    "come d x", "come d 1 ", "come d  1", "come d 1 1", "come d 1.0", "come d 1_0", "come d 10000000000000", "come 1 d",
    "come d None", "come d " + "9" * 14, "come d 0x1", "come d e", "come d 1e",
    "leave", "leave ", "leave a ", "leave  a", "leave a b", "leave A", "leave 1", "leave abcdefg",
    "place", "place ", "place a b", "place a ", "place A", "place 0",
    "far", "far ", "far 1", "far 1 ", "far  1 -", "far x -", "far -", "far 01 -", "far 00 -", "far -1 -", "far - 1",
    "far 10000000000000 -", "far a>b", "far 1,000 -", "far 1-",
    "round", "round ", "roundabout -", "pair", "pair ", "pair a", "pair a b", "pair a b ", "pair a  b -", "pair  a b -",
    "pair A b -", "pair a B -", "pair a abcdefg -", "pair a - -", "had", "had ", "ends", "ends ",
    "many", "many ", "many a ", "many  a", "many a  b", "many a b a", "many A", "many abcdefg", "many a 1", "many c a b ",
    "many c a b c", "many -", "many c, a", "least", "least ", "least a a", "least c a b ", "least  c a b", "least a>b",
    "few", "few ", "few 2", "few 2 ", "few 0 c a b", "few 1 c a b", "few 02 c a b", "few -2 c a b", "few c a b",
    "few 2  c a b", "few 2 c a b ", "few 2 c a a", "few 2 C a b", "few 10000000000000 c a b", "few 2 2 c a b", "few x a",
    "few  2 c a b",
    "stands", "word", "deeds", "twin", "marks", "do", "as_of 0", "refused", "done", "nothing", "quit", "c a b",
]


def asked(*rows):
    """The answers to these rows by a square of FIRST."""
    return answers("\n".join((FIRST,) + rows))


class Interface(unittest.TestCase):
    def test_names_of_arguments(self):
        self.assertEqual(list(inspect.signature(answers).parameters), ["text"])
        self.assertEqual((answers.__module__, vars(desk)["answers"]), (desk.__name__, answers))

    def test_by_name(self):
        self.assertEqual(kinds(answers(text="a b\nrow")), kinds(["a b"]))


class FirstRow(unittest.TestCase):
    def test_no_other_row(self):
        for row in ("a", "c a b", " ".join(PEOPLE)):
            self.assertEqual(kinds(answers(row)), kinds([]))

    def test_not_so_written(self):
        for first in ("", " ", "a ", " a", "a  b", "a a", "a b a", "A", "a 1", "abcdefg", "-", "a>b", "row x y x", "a,b",
                      "a\t", "~"):
            self.assertEqual(kinds(refusal(BadRow, answers, first).row), ("int", 0))
            self.assertEqual(refusal(BadRow, answers, first + "\nrow").row, 0)
            self.assertEqual(refusal(BadRow, answers, first + "\n\n").row, 0)
        for bad in BAD_NAMES:
            if " " not in bad:
                self.assertEqual(refusal(BadRow, answers, f"a {bad}" if bad != "" else bad).row, 0)

    def test_a_row_of_words(self):
        self.assertEqual(answers("row undo call\nrow\ncall row>undo\nplace call\nleave undo"),
                         ["row undo call", "row undo call", "2", "1"])

    def test_one_person(self):
        self.assertEqual(answers("a\nrow\ncall -\nleave a\nround -\nfar 7 -\nends -\nmany a\nleast a\nfew 2 a\nundo\nundo"),
                         ["a", "a", "refused Last", "0 1", "a", "1", "1", "-", "0", "done", "nothing"])


class Words(unittest.TestCase):
    def test_each(self):
        for row, answer in ONES:
            self.assertEqual(kinds(asked(row)), kinds([answer]), row)

    def test_refused(self):
        for row, name in REFUSED:
            self.assertEqual(asked(row), ["refused " + name], row)
            # What is refused changes nothing, and is no deed.
            self.assertEqual(asked(row, "row", "undo", row), ["refused " + name, FIRST, "nothing", "refused " + name])

    def test_all_behind_one_another(self):
        """Asks change nothing."""
        rows = [(row, answer) for row, answer in ONES if row.split(" ")[0] not in (
            "call", "change", "come", "leave", "undo")]
        rows += [(row, "refused " + name) for row, name in REFUSED]
        for at in range(0, len(rows), 50):
            some = rows[at:at + 50]
            self.assertEqual(asked(*[row for row, _ in some]), [answer for _, answer in some])

    def test_undo(self):
        self.assertEqual(asked("undo", "call a>c", "come d", "leave c", "change a d", "undo", "undo", "undo", "row", "undo",
                               "undo"),
                         ["nothing", "c a b", "c a b d", "0", "d b a", "done", "done", "done", "c a b", "done", "nothing"])

    def test_texts_for_the_people_as_they_are(self):
        self.assertEqual(asked("call d>a", "come d", "call d>a", "call c>d", "leave d", "call d>a", "undo", "call a>d"),
                         ["refused BadText", "c a b d", "c a d b", "a c d b", "2", "refused BadText", "done",
                          "c a d b"])
        self.assertEqual(asked("many d c a b", "come d 0", "many d c a b", "many c a b", "least d c a b", "few 2 c a b d",
                               "leave d", "least d c a b", "few 2 d c a b", "undo", "undo", "many c a b"),
                         ["refused Unlike", "d c a b", "35", "refused Unlike", "-", "1", "0", "refused Unlike",
                          "refused Unlike", "done", "done", "10"])
        self.assertEqual(asked("far 3 d>a", "round d>a", "pair d a d>a", "had d>a", "ends d>a", "come d", "far 3 d>a",
                               "round d>a", "pair d c d>a", "had d>a", "ends d>a"),
                         ["refused BadText", "refused BadText", "refused NoName", "refused BadText", "refused BadText",
                          "c a b d", "c a d b", "1 1", "a c", "refused Never", "12"])

    def test_the_row_behind_deeds_is_asked(self):
        self.assertEqual(asked("change c b", "row", "place c", "far 1 a>b", "had -", "many c a b", "least c a b"),
                         ["b a c", "b a c", "2", "b a c", "b a c", "1", "b>c c>b"])


class NotSoWritten(unittest.TestCase):
    def test_each(self):
        for row in BAD:
            self.assertEqual(kinds(refusal(BadRow, asked, row).row), ("int", 1), row)
            self.assertEqual(refusal(BadRow, asked, "row", "leave zz", row, "row").row, 3, row)
            self.assertEqual(refusal(BadRow, asked, row, row).row, 1, row)

    def test_a_last_line_feed(self):
        self.assertEqual(refusal(BadRow, answers, "c a b\n").row, 1)
        self.assertEqual(refusal(BadRow, answers, "c a b\nrow\n").row, 2)
        self.assertEqual(refusal(BadRow, answers, "c a b\nrow\n\nrow").row, 2)
        self.assertEqual(refusal(BadRow, answers, "\nc a b\nrow").row, 0)
        self.assertEqual(refusal(BadRow, answers, "").row, 0)

    def test_the_first_of_several(self):
        self.assertEqual(refusal(BadRow, answers, "A\nx\ny").row, 0)
        self.assertEqual(refusal(BadRow, asked, "row", "x", "", "y").row, 2)

    def test_ahead_of_all(self):
        """Also where rows ahead would be refused."""
        self.assertEqual(refusal(BadRow, asked, "leave zz", "call x", "many z", "few 1 c a b").row, 4)

    def test_other_names_and_figures(self):
        for bad in BAD_NAMES:
            if " " not in bad and "\n" not in bad:
                for row in (f"leave {bad}", f"come {bad}", f"come {bad} 0", f"place {bad}", f"change {bad} a",
                            f"change a {bad}", f"pair {bad} a -", f"pair a {bad} -", f"many a {bad}", f"least {bad}",
                            f"few 2 {bad}"):
                    self.assertEqual(refusal(BadRow, asked, row).row, 1, row)
        for bad in ("\xb2", "\u0663", "1\xb2", "\uff11", " 1", ""):
            for row in (f"come d {bad}", f"far {bad} -", f"few {bad} c a b"):
                self.assertEqual(refusal(BadRow, asked, row).row, 1, row)

    def test_texts_are_not_looked_at_ahead(self):
        for text in (" ", "  ", "x", "a>b>c", ", ", "~", "-,", "\"", "a" * 190, "refused BadText", "0"):
            for word in ("call", "far 1", "round", "pair a b", "had", "ends"):
                self.assertEqual(asked(f"{word} {text}"), ["refused BadText"])


class Held(unittest.TestCase):
    """Against a square, and against what the functions tell."""

    def deed(self, square, chance):
        row = square.stands()
        others = [name for name in PEOPLE[:12] if name not in row]
        way = chance.randrange(5)
        if way == 0 and others:
            name, place = chance.choice(others), chance.randrange(len(row) + 1)
            square.come(name, place)
            return f"come {name} {place}", str(square)
        if way == 1 and len(row) > 1:
            name = chance.choice(row)
            return f"leave {name}", str(square.leave(name))
        if way == 2:
            one, other = chance.choice(row), chance.choice(row)
            square.change(one, other)
            return f"change {one} {other}", str(square)
        if way == 3:
            return "undo", "done" if square.undo() else "nothing"
        text = call_text(mixed_call(row, chance))
        square.call(dict(call_in(row, text)))
        return f"call {text}", str(square)

    def asks(self, square, chance):
        row = square.stands()
        word = many_words(row, [chance.randrange(1, 4)], chance.random())[0]
        text, other = word_text(word), shuffles(row, 1, chance.random())[0]
        many = chance.choice([0, 1, 5, 10 ** 12])
        yield f"far {many} {text}", row_text(far(row, word, many))
        yield "round " + text, " ".join(str(number) for number in comes_round(row, word))
        if len(row) > 1:
            yield f"pair {row[0]} {row[-1]} {text}", " ".join(pair_of(word, row[0], row[-1]))
        try:
            yield "had " + text, row_text(had(row, word))
        except Never:
            yield "had " + text, "refused Never"
        if len(row) < 8:
            yield "ends " + text, str(ends_many(row, word))
        yield "many " + row_text(other), str(calls_many(row, other))
        yield "least " + row_text(other), call_text(call_of_fewest(row, other))
        few = chance.choice([2, 3, 24])
        yield f"few {few} {row_text(other)}", str(fewest_calls(row, other, few))
        yield "row", row_text(row)
        yield "place " + other[0], str(row.index(other[0]))

    def test_many_sheets(self):
        for seed, many in enumerate((1, 2, 3, 4, 5, 6, 9, 12)):
            chance = random.Random(seed)
            first = shuffles(PEOPLE[:many], 1, seed)[0]
            square = Square(first)
            rows = []
            for _ in range(20):
                rows.append(self.deed(square, chance))
                rows += self.asks(square, chance)
            text = "\n".join([row_text(first)] + [row for row, _ in rows])
            self.assertEqual(kinds(answers(text)), kinds([answer for _, answer in rows]))

    def test_24_people_and_60_rows(self):
        text = call_text(ring_call(PEOPLE))
        self.assertLess(len("far 1000000000000 " + text), 200)
        row = row_text(PEOPLE)
        sheet = "\n".join([row] + [f"far 1000000000000 {text}", f"round {text}", f"had {text}", f"call {text}"] * 15)
        told = answers(sheet)
        self.assertEqual(len(told), 60)
        self.assertEqual(told[0], row_text(far(PEOPLE, [ring_call(PEOPLE)], 10 ** 12)))
        self.assertEqual(told[1], "0 24")

    def test_told_lists_are_the_askers_own(self):
        told = answers("a b\nrow\nundo")
        told.clear()
        self.assertEqual(answers("a b\nrow\nundo"), ["a b", "nothing"])
        self.assertIsNot(answers("a b\nrow"), answers("a b\nrow"))
        self.assertEqual(call_of("ab", {}), stay("ab"))


if __name__ == "__main__":
    unittest.main()
