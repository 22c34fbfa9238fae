"""Promise [24]: webs cut out of tables of shares."""

import itertools
import math
import random
import unittest
from fractions import Fraction

from tests.webs import GREATEST, ONE, OUTSIDE, SPLIT, STEPS, as_numbers, as_pair, mixed_webs, small_webs
from walksago.errors import NoTable, NoWeb
from walksago.moves.texts import read_web, web_shown
from walksago.shares.chains import resting, table_of
from walksago.watched.tables import web_of

AB = ("a", "b")
ABCD = ("a", "b", "c", "d")


def tenths(*cuts):
    """A row whose shares end at these tenths, the last one at 1."""
    ends = [Fraction(cut, 10) for cut in (0, *cuts, 10)]
    return tuple(as_pair(end - begin) for begin, end in itertools.pairwise(ends))


def cut_piece_by_piece(states, table):
    """The web, by looking in the middle of each piece whose row has it."""
    ends = [list(itertools.accumulate(as_numbers(row))) for row in table]
    cuts = sorted({Fraction(0)}.union(*ends))
    moves = []
    for begin, end in itertools.pairwise(cuts):
        middle = (begin + end) / 2
        images = []
        for row in ends:
            images += [state for state, low, high in zip(states, [0] + row, row) if low < middle < high]
        moves.append((end - begin, tuple(images)))
    whole = math.lcm(*[length.denominator for length, images in moves])
    divisor = math.gcd(*[int(length * whole) for length, images in moves])
    return states, tuple(
        ("abcdefgh"[at], int(length * whole) // divisor, images) for at, (length, images) in enumerate(moves)
    )


class CutTest(unittest.TestCase):
    def refused(self, refusal, row, states, table):
        with self.assertRaises(refusal) as caught:
            web_of(states, table)
        self.assertEqual(caught.exception.row, row)

    def test_an_ordinary_table(self):
        table = (((1, 2), (1, 2)), ((1, 3), (2, 3)))
        moves = (("a", 2, ("a", "a")), ("b", 1, ("a", "b")), ("c", 3, ("b", "b")))
        self.assertEqual(web_of(AB, table), (AB, moves))

    def test_states_in_their_own_order(self):
        table = (((1, 4), (3, 4)), ((1, 1), (0, 1)))
        self.assertEqual(web_of(("z", "a"), table), (("z", "a"), (("a", 1, ("z", "z")), ("b", 3, ("a", "z")))))

    def test_one_state_alone(self):
        self.assertEqual(web_of(("a",), (((1, 1),),)), ONE)
        self.assertEqual(web_of(("x",), (((1, 1),),)), (("x",), (("a", 1, ("x",)),)))

    def test_shares_of_nought_and_one(self):
        table = (((0, 1), (1, 1), (0, 1)), ((0, 1), (0, 1), (1, 1)), ((1, 1), (0, 1), (0, 1)))
        self.assertEqual(web_of(("a", "b", "c"), table), (("a", "b", "c"), (("a", 1, ("b", "c", "a")),)))

    def test_shares_of_nought_between_others(self):
        table = (tenths(0, 5, 5), tenths(5, 5, 10), tenths(0, 0, 0), tenths(10, 10, 10))
        moves = (("a", 1, ("b", "a", "d", "a")), ("b", 1, ("d", "c", "d", "a")))
        self.assertEqual(web_of(ABCD, table), (ABCD, moves))

    def test_ends_of_several_rows_at_one_place(self):
        table = (((1, 2), (1, 2)), ((2, 4), (2, 4)))
        self.assertEqual(web_of(AB, table), (AB, (("a", 1, ("a", "a")), ("b", 1, ("b", "b")))))
        table = (tenths(2, 4, 6), tenths(4, 6, 6), tenths(2, 6, 6), tenths(6, 6, 6))
        self.assertEqual([weight for name, weight, images in web_of(ABCD, table)[1]], [1, 1, 1, 2])

    def test_least_whole_numbers(self):
        self.assertEqual(web_of(AB, (((1, 3), (2, 3)),) * 2)[1], (("a", 1, ("a", "a")), ("b", 2, ("b", "b"))))
        table = (((1, 10), (9, 10)), ((4, 15), (11, 15)))
        self.assertEqual([weight for name, weight, images in web_of(AB, table)[1]], [3, 5, 22])

    def test_just_eight_pieces_and_nine(self):
        table = (tenths(1, 2, 3), tenths(4, 5, 6), tenths(7, 7, 7), tenths(7, 10, 10))
        web = web_of(ABCD, table)
        self.assertEqual([name for name, weight, images in web[1]], list("abcdefgh"))
        self.assertEqual([weight for name, weight, images in web[1]], [1] * 7 + [3])
        self.assertEqual(web, cut_piece_by_piece(ABCD, table))
        self.refused(NoWeb, 0, ABCD, table[:3] + (tenths(7, 8, 10),))
        self.refused(NoWeb, 0, ABCD, (tenths(0, 0, 9),) + table[1:3] + (tenths(1, 2, 3),))

    def test_weights_of_just_99_and_of_more(self):
        self.assertEqual(web_of(AB, (((99, 100), (1, 100)),) * 2)[1][0], ("a", 99, ("a", "a")))
        self.assertEqual(web_of(AB, (((1, 100), (99, 100)),) * 2)[1][1], ("b", 99, ("b", "b")))
        self.refused(NoWeb, 0, AB, (((100, 101), (1, 101)),) * 2)
        self.refused(NoWeb, 0, AB, (((1, 101), (100, 101)),) * 2)
        # Each row by itself would do, but the pieces are small beside one another.
        self.refused(NoWeb, 0, AB, (((1, 99), (98, 99)), ((1, 98), (97, 98))))
        # Over one number they are great, but they are twice fifty ones.
        self.assertEqual(web_of(AB, (((50, 100), (50, 100)),) * 2)[1][1], ("b", 1, ("b", "b")))

    def test_fractions_of_twelve_figures(self):
        far = ((1, 999999999999), (999999999998, 999999999999))
        self.refused(NoWeb, 0, AB, (far, far))
        self.refused(NoTable, 1, AB, (far, far[:1] + ((999999999997, 999999999998),)))

    def test_a_row_that_lacks_and_one_too_many(self):
        row = ((1, 2), (1, 2))
        self.refused(NoTable, 0, AB, ())
        self.refused(NoTable, 1, AB, (row,))
        self.refused(NoTable, 2, AB, (row,) * 3)
        self.refused(NoTable, 2, AB, (row,) * 5)
        self.refused(NoTable, 1, ("a",), (((1, 1),), ((1, 1),)))
        self.refused(NoTable, 2, ABCD, (tenths(1, 2, 3),) * 2)

    def test_a_row_too_long_or_too_short(self):
        row = ((1, 2), (1, 2))
        self.refused(NoTable, 1, AB, (row, ((1, 1),)))
        self.refused(NoTable, 0, AB, (((1, 2), (1, 2), (0, 1)), row))
        self.refused(NoTable, 1, AB, (row, ()))

    def test_a_row_that_is_not_together_one(self):
        row = ((1, 2), (1, 2))
        self.refused(NoTable, 0, AB, (((1, 2), (1, 3)), row))
        self.refused(NoTable, 1, AB, (row, ((1, 2), (2, 3))))
        self.refused(NoTable, 1, AB, (row, ((0, 1), (0, 1))))
        self.refused(NoTable, 0, ("a",), (((1, 2),),))

    def test_a_share_below_nought(self):
        row = ((1, 2), (1, 2))
        self.refused(NoTable, 1, AB, (row, ((-1, 2), (3, 2))))
        self.refused(NoTable, 0, AB, (((2, 1), (-1, 1)), row))

    def test_of_several_wrong_rows_the_first(self):
        row = ((1, 2), (1, 2))
        wrong = (((1, 3), (1, 3)), ((1, 1),), ((-1, 2), (3, 2)))
        for one, other in itertools.product(wrong, repeat=2):
            self.refused(NoTable, 0, AB, (one, other))
            self.refused(NoTable, 1, AB, (row, one, other))
            self.refused(NoTable, 0, AB, (one,))

    def test_a_wrong_row_is_told_ahead_of_too_many_pieces(self):
        table = (tenths(1, 2, 3), tenths(4, 5, 6), tenths(7, 8, 9))
        self.refused(NoTable, 3, ABCD, table)
        self.refused(NoTable, 3, ABCD, table + (((1, 1),),))
        self.refused(NoWeb, 0, ABCD, table + (tenths(1, 1, 1),))

    def test_the_web_has_the_shares_of_the_table(self):
        for web in itertools.chain(small_webs(), (ONE, STEPS, OUTSIDE, SPLIT)):
            table = table_of(web)
            cut = web_of(web[0], table)
            self.assertEqual(table_of(cut), table)
            self.assertEqual(cut, cut_piece_by_piece(web[0], table))
            self.assertEqual(read_web(web_shown(cut)), cut)

    def test_it_rests_as_the_web_did_whose_table_it_was(self):
        for web in (STEPS, OUTSIDE):
            self.assertEqual(resting(web_of(web[0], table_of(web))), resting(web))

    def test_as_looking_into_each_piece_tells(self):
        mixed = random.Random(24)
        told = 0
        for at in range(300):
            states = ABCD[: 1 + at % 4]
            below = mixed.choice((1, 2, 3, 4, 6, 12))
            cuts = [sorted(mixed.choices(range(below + 1), k=len(states) - 1)) for state in states]
            rows = [itertools.pairwise([0, *row, below]) for row in cuts]
            table = tuple(tuple(as_pair(Fraction(high - low, below)) for low, high in row) for row in rows)
            pieces = len({cut for row in cuts for cut in row} - {0, below}) + 1
            if pieces > 8:
                self.refused(NoWeb, 0, states, table)
            else:
                self.assertEqual(web_of(states, table), cut_piece_by_piece(states, table))
                told += 1
        self.assertGreater(told, 200)

    def test_either_a_small_web_or_a_refusal(self):
        for web in mixed_webs(5, 8):
            table = table_of(web)
            try:
                cut = web_of(web[0], table)
            except NoWeb as refused:
                self.assertEqual(refused.row, 0)
            else:
                self.assertEqual(table_of(cut), table)
                self.assertLessEqual(len(cut[1]), 8)
                self.assertLessEqual(max(weight for name, weight, images in cut[1]), 99)

    def test_eight_states(self):
        row = ((1, 8),) * 8
        states = GREATEST[0]
        moves = tuple((name, 1, (state,) * 8) for name, state in zip("abcdefgh", states))
        self.assertEqual(web_of(states, (row,) * 8), (states, moves))

    def test_of_more_states_is_no_error(self):
        states = tuple("abcdefghi")
        table = tuple(tuple((int(state == other), 1) for state in states) for other in states)
        self.assertEqual(web_of(states, table), (states, (("a", 1, states),)))

    def test_kinds_of_what_is_told(self):
        states, moves = web_of(STEPS[0], table_of(STEPS))
        self.assertIs(type(states), tuple)
        self.assertIs(type(moves), tuple)
        for name, weight, images in moves:
            self.assertEqual([type(name), type(weight), type(images)], [str, int, tuple])


if __name__ == "__main__":
    unittest.main()
