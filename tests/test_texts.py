import inspect
import itertools
import unittest

from standby import texts
from standby.calls import stay
from standby.errors import BadText, Unlike
from standby.texts import call_in, call_text, row_in, row_text, word_in, word_text

from samples import (
    BAD_NAMES, NAMES, PEOPLE, SMALL, all_calls, as_lists, as_tuples, kinds, many_calls, many_words, orders, refusal,
    ring_call, shuffles, small_words, stays, unlike_words,
)

ABC = ("c", "a", "b")
# Texts of no ROW, each with the number of its first bad word.
BAD_ROWS = [
    ("", 0), (" ", 0), ("  ", 0), (" a", 0), ("a ", 1), ("a  b", 1), ("a b ", 2), ("a b  c", 2), ("a a", 1),
    ("a b a", 2), ("a b a b", 2), ("a b c b ", 3), ("A", 0), ("a B", 1), ("abcdefg", 0), ("abcdef abcdefg", 1),
    ("a\tb", 0), ("a\nb", 0), ("a b\n", 1), ("a 1", 1), ("a,b", 0), ("a, b", 0), ("a b, c", 1), ("-", 0), ("a -", 1),
    ("a>b", 0), ("a a>b", 1), ("\xe9", 0), ("a \u0131", 1), ("a" * 1000, 0), ("a b c a" + " d" * 500, 3),
    ("a\xa0b", 0), ("a\u2003b", 0), ("~", 0), ("a" + " " * 300, 1),
]
# Texts of no CALL of a, b and c, likewise.
BAD_CALLS = [
    ("", 0), (" ", 0), ("  ", 0), ("a", 0), (">", 0), ("a>", 0), (">a", 0), ("a>b ", 1), (" a>b", 0), ("a>b  b>c", 1),
    ("a>a", 0), ("a>b b>b", 1), ("a>d", 0), ("d>a", 0), ("a>b d>a", 1), ("a>b c>d", 1), ("b>a a>b", 1), ("a>b a>b", 1),
    ("a>b a>c", 1), ("a>b b>a a>c", 2), ("c>a b>a", 1), ("a>b>c", 0), ("a>b>", 0), (">a>b", 0), ("a>>b", 0),
    ("a<b", 0), ("a->b", 0), ("a > b", 0), ("-a>b", 0), ("-  ", 0), ("- ", 0), (" -", 0), ("- -", 0), ("--", 0),
    ("- a>b", 0), ("a>b -", 1), ("a>b - b>c", 1), ("a>b,", 0), ("a>b, b>c", 0), ("a>b b>c,", 1), ("A>b", 0), ("a>B", 0),
    ("a>b\n", 0), ("a>b\tb>c", 0), ("a>b b>c c>a d>a", 3), ("a>bb", 0), ("aa>b", 0), ("a>b\xa0b>c", 0), ("\xe9>a", 0),
    ("a>b" * 300, 0), ("a>b" + " " * 300, 1), ("ab", 0), ("a>b b", 1),
]
# Texts of no WORD of a, b and c, each with the number of its first bad call.
BAD_WORDS = [(text, 0) for text, _ in BAD_CALLS if text != "" and text != "a>b, b>c"] + [
    (", ", 0), (",", 0), (", a>b", 0), ("a>b, ", 1), ("a>b,", 0), ("a>b,b>c", 0), ("a>b ,b>c", 0), ("a>b , b>c", 0),
    ("a>b,  b>c", 1), ("a>b, , b>c", 1), ("a>b, b>c,", 1), ("a>b,, b>c", 0), ("a>b, b>c, ", 2), ("-, -, ", 2),
    ("-,-", 0), ("-, -,", 1), ("-, a>d", 1), ("-, -, a>b a>c, d>a", 2), ("a>b, b>c, a>a", 2), ("a>b; b>c", 0),
    ("a>b,\tb>c", 0), ("a>b,\nb>c", 0), ("-, - -", 1),
]


class Interface(unittest.TestCase):
    def test_names_of_arguments(self):
        for ask, arguments in (
            (row_text, ["row"]), (row_in, ["text"]), (call_text, ["call"]), (call_in, ["names", "text"]),
            (word_text, ["word"]), (word_in, ["names", "text"]),
        ):
            self.assertEqual(list(inspect.signature(ask).parameters), arguments)
            self.assertEqual((ask.__module__, vars(texts)[ask.__name__]), (texts.__name__, ask))


class Rows(unittest.TestCase):
    def test_by_hand(self):
        self.assertEqual(row_text(("cleo", "ann", "bob")), "cleo ann bob")
        self.assertEqual(row_text(row=["a"]), "a")
        self.assertEqual(kinds(row_in("cleo ann bob")), kinds(("cleo", "ann", "bob")))
        self.assertEqual(row_in(text="a"), ("a",))

    def test_told_and_read_again(self):
        for names in SMALL + (tuple(PEOPLE), tuple(NAMES)):
            for row in orders(names) if len(names) < 5 else shuffles(names, 5, 1):
                text = row_text(row)
                self.assertEqual(text.split(" "), list(row))
                self.assertEqual(row_text(list(row)), text)
                self.assertEqual(kinds(row_in(text)), kinds(row))

    def test_bad_texts(self):
        for text, at in BAD_ROWS:
            self.assertEqual(kinds(refusal(BadText, row_in, text).at), ("int", at), text)
            self.assertEqual(refusal(BadText, row_in, text="x y " + text).at, at + 2, text)

    def test_bad_names(self):
        for bad in BAD_NAMES:
            if " " not in bad:
                self.assertEqual(refusal(BadText, row_in, bad).at, 0)
                self.assertEqual(refusal(BadText, row_in, f"x y {bad} z").at, 2)


class Calls(unittest.TestCase):
    def test_by_hand(self):
        self.assertEqual(call_text((("a", "b"), ("b", "a"), ("c", "c"))), "a>b b>a")
        self.assertEqual(call_text(call=(("ann", "cleo"), ("bob", "bob"), ("cleo", "cleo"))), "ann>cleo")
        self.assertEqual(call_text((("a", "a"),)), "-")
        self.assertEqual(call_text(stay(PEOPLE)), "-")
        self.assertEqual(call_in(ABC, "a>b b>a"), (("a", "b"), ("b", "a"), ("c", "c")))
        self.assertEqual(call_in(ABC, "c>a"), (("a", "a"), ("b", "b"), ("c", "a")))
        self.assertEqual(call_in(text="-", names=ABC), stay(ABC))
        self.assertEqual(call_in(["a"], "-"), (("a", "a"),))

    def test_names_of_which_one_begins_another(self):
        names = ["ab", "a", "abc", "b"]
        self.assertEqual(call_in(names, "a>ab ab>abc abc>a b>ab"), (("a", "ab"), ("ab", "abc"), ("abc", "a"), ("b", "ab")))
        self.assertEqual(refusal(BadText, call_in, names, "a>b b>a ab>a").at, 2)

    def test_told_and_read_again(self):
        for names in SMALL + (tuple(PEOPLE),):
            calls = all_calls(names) if len(names) < 5 else many_calls(names, 9, 2) + [stays(names), ring_call(names)]
            for call in calls:
                text = call_text(call)
                self.assertEqual(text, " ".join(f"{who}>{name}" for who, name in call if who != name) or "-")
                self.assertEqual(call_text(as_lists(call)), text)
                for handed in (names, list(names), names[::-1]):
                    self.assertEqual(kinds(call_in(handed, text)), kinds(call))

    def test_each_call_has_one_text(self):
        """Of all short texts just the told ones are read."""
        good = {call_text(call): call for call in all_calls("ab")}
        for size in range(8):
            for signs in itertools.product("a> b-" if size < 6 else "a> b", repeat=size):
                text = "".join(signs)
                if text in good:
                    self.assertEqual(call_in(["a", "b"], text), good[text])
                else:
                    refusal(BadText, call_in, ["a", "b"], text)

    def test_bad_texts(self):
        for text, at in BAD_CALLS:
            self.assertEqual(kinds(refusal(BadText, call_in, ABC, text).at), ("int", at), text)
            self.assertEqual(refusal(BadText, call_in, text=text, names=list(ABC)).at, at, text)

    def test_bad_names(self):
        for bad in BAD_NAMES:
            if " " not in bad and ">" not in bad:
                self.assertEqual(refusal(BadText, call_in, ABC, f"a>b b>{bad}").at, 1)
                self.assertEqual(refusal(BadText, call_in, ABC, f"a>b {bad}>b").at, 1)
                self.assertEqual(refusal(BadText, call_in, ABC, f"{bad}>b").at, 0)


class Words(unittest.TestCase):
    def test_by_hand(self):
        swap = (("a", "b"), ("b", "a"), ("c", "c"))
        self.assertEqual(word_text([swap, stay(ABC), swap]), "a>b b>a, -, a>b b>a")
        self.assertEqual(word_text(word=[]), "")
        self.assertEqual(word_text([stay(ABC)]), "-")
        self.assertEqual(kinds(word_in(ABC, "a>b b>a, -, a>b b>a")), kinds([swap, stay(ABC), swap]))
        self.assertEqual(word_in(text="", names=ABC), [])
        self.assertEqual(word_in(["a"], "-, -"), [stay("a"), stay("a")])

    def test_told_and_read_again(self):
        for names in SMALL + (tuple(PEOPLE),):
            words = small_words(names) if len(names) < 5 else many_words(names, [0, 1, 2, 40], 3)
            for word in words:
                text = word_text(word)
                self.assertEqual(text, ", ".join(call_text(call) for call in word))
                self.assertEqual(word_text(as_lists(word)), text)
                self.assertEqual(word_text(as_tuples(word)), text)
                for handed in (names, list(names[::-1])):
                    self.assertEqual(kinds(word_in(handed, text)), kinds(word))

    def test_bad_texts(self):
        for text, at in BAD_WORDS:
            self.assertEqual(kinds(refusal(BadText, word_in, ABC, text).at), ("int", at), text)
            self.assertEqual(refusal(BadText, word_in, text="-, c>a, " + text, names=list(ABC)).at, at + 2, text)
        self.assertEqual(len(word_in(ABC, "a>b, b>c")), 2)

    def test_unlike(self):
        for word in unlike_words(["a", "b", "c"]):
            if len({tuple(who for who, _ in call) for call in word}) > 1:
                refusal(Unlike, word_text, word)
                refusal(Unlike, word_text, as_lists(word))


class Everything(unittest.TestCase):
    def test_nothing_handed_in_is_changed(self):
        row, names = list(ABC), list(ABC)
        word = [as_lists(ring_call(ABC)), as_lists(stay(ABC))]
        row_text(row)
        call_text(word[0])
        text = word_text(word)
        call = call_in(names, "a>b")
        told = word_in(names, text)
        refusal(BadText, call_in, names, "a>z")
        refusal(BadText, word_in, names, "a>z")
        self.assertEqual((row, names, word), (list(ABC), list(ABC), as_lists([ring_call(ABC), stay(ABC)])))
        names.append("d")
        self.assertEqual((call, told), (call_in(ABC, "a>b"), word_in(ABC, text)))

    def test_told_words_are_the_askers_own(self):
        for text in ("", "-, a>b"):
            told = word_in(ABC, text)
            told.append("x")
            self.assertEqual(word_text(word_in(ABC, text)), text)
            self.assertIsNot(word_in(ABC, text), word_in(ABC, text))


if __name__ == "__main__":
    unittest.main()
