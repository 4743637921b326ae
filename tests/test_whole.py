"""What [1] promises above all, over the whole program, of squares that people come to, leave and are called in."""

import itertools
import random
import unittest

from standby.between import call_at, call_of_fewest, calls_many, fewest_goers, number_of, words_many
from standby.calling import called
from standby.calls import goers
from standby.errors import Known, Last, Never, NoName, NoPlace, NoNumber
from standby.far import changes, comes_round, far, rests
from standby.few import fewest_calls, named, shows_few, word_of_few
from standby.had import can_be, ends_many, had, shows_never, web
from standby.lots import is_lot, least_lot, part_of, row_of
from standby.parting import alike, parting, shows_parting
from standby.rows import is_ahead
from standby.single import again_many, rests_all
from standby.square import Square
from standby.tables import Table
from standby.texts import call_in, call_text, row_in, row_text, word_in, word_text
from standby.walkers import pair_of, shows_ahead, walks
from standby.words import called_all, rows_behind

from samples import PEOPLE, mixed_call, orders, refusal, shuffles


def squares():
    """Squares of several sizes, with words of several lengths behind refused and undone deeds."""
    for seed, many in enumerate((1, 2, 3, 4, 4, 5, 5, 9, 24)):
        chance = random.Random(seed)
        square = Square(shuffles(PEOPLE[:many], 1, seed)[0])
        square.come("qq")
        square.do([("call", mixed_call(square.stands(), chance)), ("change", "qq", square.stands()[0]), ("leave", "qq")])
        for length in (1, 2, 4):
            while len(square.word()) < length:
                square.call(mixed_call(square.stands(), chance))
                refusal(NoName, square.call, {"nobody": "a"})
                square.change(square.stands()[0], square.stands()[-1])
                refusal(Known, square.do, [("come", "qq"), ("come", "qq")])
                refusal(NoPlace, square.come, "qq", -1)
                square.undo()
            yield square


SQUARES = [(square.begun(), square.word(), square.stands()) for square in squares()]
SMALL = [(row, word, end) for row, word, end in SQUARES if len(row) < 6]


class AboveAll(unittest.TestCase):
    def test_a_who_of_two_is_ahead(self):
        for row, word, end in SQUARES:
            for one, other in itertools.islice(itertools.permutations(row, 2), 60):
                first, second = pair_of(word, one, other)
                self.assertIs(is_ahead(end, one, other), is_ahead(row, first, second))
                self.assertIs(shows_ahead(row, word, one, other, walks(word, one, other)), is_ahead(end, one, other))

    def test_b_words_are_tables(self):
        for (row, word, _), again in itertools.product(SMALL, (1, 2, 3)):
            other = word[1:] + word[:again]
            rows = orders(row)
            same = all(called_all(each, word) == called_all(each, other) for each in rows)
            self.assertIs(Table(row, word) == Table(row, other), same)
            self.assertIs(alike(row, word, other), same)
            self.assertEqual(Table(row, word).then(Table(row, other)), Table(row, word + other))
            found = parting(row, word, other)
            self.assertIs(found is None, same)
            self.assertIs(shows_parting(row, word, other, found), not same)

    def test_c_words_done_often(self):
        for row, word, end in SQUARES:
            self.assertEqual(far(row, word, 1), end)
            self.assertEqual(far(row, word, 5), called_all(row, word * 5))
            begin, later = comes_round(row, word)
            self.assertEqual(far(row, word, begin), far(row, word, begin + later))
            self.assertEqual(far(row, word, 10 ** 12), far(row, word, begin + (10 ** 12 - begin) % later))
            self.assertIs(rests(row, word), row == end)
            turns = rows_behind(row, word * 6)[::len(word)]
            for one, other in itertools.islice(itertools.combinations(row, 2), 9):
                seen = [is_ahead(turn, one, other) for turn in turns]
                wanted = sum(seen[at] != seen[at + 1] for at in range(6))
                self.assertEqual(changes(row, word, one, other, 6), wanted)

    def test_d_what_can_have_been(self):
        for row, word, _ in SMALL:
            ends = {called_all(each, word) for each in orders(row)}
            self.assertEqual(ends_many(row, word), len(ends))
            told = {}
            for each in orders(row):
                told.setdefault(tuple(is_ahead(each, *pair) for pair in web(row, word)), set()).add(
                    called_all(each, word))
            self.assertTrue(all(len(some) == 1 for some in told.values()))
            self.assertEqual(len(told), len(ends))
            for each in orders(row):
                self.assertIs(can_be(each, word), each in ends)
                if each in ends:
                    self.assertEqual(called_all(had(each, word), word), each)
                else:
                    self.assertIs(shows_never(each, word, refusal(Never, had, each, word).ring), True)

    def test_e_what_comes_again(self):
        for row, word, _ in SMALL:
            for call in word:
                comes = {each for each in orders(row) if comes_round(each, [call])[0] == 0}
                self.assertEqual(again_many(call), len(comes))
                self.assertIs(rests_all(call), all(rests(each, [call]) for each in comes))

    def test_f_from_row_to_row(self):
        for row, word, end in SQUARES:
            many = calls_many(row, end)
            for number in {0, many // 2, many - 1}:
                self.assertEqual(called(row, call_at(row, end, number)), end)
                self.assertEqual(number_of(row, call_at(row, end, number)), number)
            self.assertEqual(refusal(NoNumber, call_at, row, end, many).number, many)
            call = call_of_fewest(row, end)
            self.assertEqual((called(row, call), len(goers(call))), (end, fewest_goers(row, end)))
            self.assertEqual(words_many(row, end, 1), many)
            self.assertGreater(words_many(row, end, len(word)), 0)

    def test_g_where_few_may_be_named(self):
        for (row, _, end), few in itertools.product(SQUARES, (2, 3, 7)):
            word = word_of_few(row, end, few)
            self.assertEqual((called_all(row, word), len(word)), (end, fewest_calls(row, end, few)))
            self.assertTrue(all(named(call) <= few for call in word))
            falling = sorted(name for name, behind in zip(end, end[1:]) if is_ahead(row, behind, name))
            self.assertIs(shows_few(row, end, few, max(1, len(word)), falling), len(word) > 0)

    def test_h_a_square_made_anew(self):
        for row, word, end in SQUARES:
            square = Square(row)
            for call in word:
                square.call(call)
            self.assertEqual((square.begun(), square.word(), square.stands()), (row, word, end))
            self.assertEqual(square.table(), Table(row, word))
            if len(row) == 1:
                refusal(Last, square.leave, row[0])


class HandedInAgain(unittest.TestCase):
    def test_lots_alone(self):
        for row, word, end in SQUARES:
            for name in row:
                lot = least_lot(word, name)
                self.assertIs(is_lot(word, lot), True)
                self.assertEqual(called_all(row_of(row, lot), part_of(word, lot)), row_of(end, lot))

    def test_texts(self):
        for row, word, _ in SQUARES:
            self.assertEqual(row_in(row_text(row)), row)
            self.assertEqual(word_in(row, word_text(word)), word)
            for call in word:
                self.assertEqual(call_in(row, call_text(call)), call)


if __name__ == "__main__":
    unittest.main()
