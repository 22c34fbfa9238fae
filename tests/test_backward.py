"""Promises [9] and [10]: what is drawn by so many moves back, and how many are enough; [3] of both."""

import itertools
import unittest
from fractions import Fraction

from tests.webs import (
    EIGHT_NAMES, GREATEST, LONGEST, ONE, OUTSIDE, SLOW, SPLIT, STEPS, as_numbers, as_pair, assert_fraction,
    assert_fractions, met_past_by_past, mixed_webs, one_number, small_webs,
)
from walksago.draws.backward import drawn_by, far_enough
from walksago.errors import NoRest
from walksago.shares.chains import resting

HALVES = (("a", "b"), (("fall", 1, ("a", "a")), ("stay", 1, ("a", "b"))))


def drawn_past_by_past(web, many):
    met = met_past_by_past(web, many)
    return tuple(as_pair(share) for share in met), as_pair(1 - sum(met))


class DrawnTest(unittest.TestCase):
    def test_by_no_moves(self):
        self.assertEqual(drawn_by(STEPS, 0), (((0, 1),) * 3, (1, 1)))

    def test_an_ordinary_web(self):
        self.assertEqual(drawn_by(STEPS, 1), (((0, 1),) * 3, (1, 1)))
        self.assertEqual(drawn_by(STEPS, 2), (((1, 9), (0, 1), (1, 36)), (31, 36)))

    def test_one_state_alone_is_drawn_by_any_number(self):
        for many in (0, 1, 2, 60):
            self.assertEqual(drawn_by(ONE, many), (((1, 1),), (0, 1)))

    def test_pasts_that_have_met_are_led_on(self):
        # They meet by `fall` in a; what is done behind it still turns them.
        self.assertEqual(drawn_by(SLOW, 2), (((1, 100), (99, 10000)), (9801, 10000)))

    def test_where_none_ever_meet(self):
        self.assertEqual(drawn_by(GREATEST, 60), (((0, 1),) * 8, (1, 1)))
        self.assertEqual(drawn_by(SPLIT, 12), (((0, 1),) * 5, (1, 1)))

    def test_sixty_moves(self):
        apart = as_pair(Fraction(99, 100) ** 60)
        shares, left = drawn_by(SLOW, 60)
        self.assertEqual(left, apart)
        self.assertEqual(sum(as_numbers(shares)), 1 - one_number(apart))
        fall = ("fall", 99, (EIGHT_NAMES[3],) * 8)
        web = (EIGHT_NAMES, GREATEST[1][:7] + (fall,))
        shares, left = drawn_by(web, 60)
        self.assertEqual(one_number(left), Fraction(7, 8) ** 60)
        self.assertEqual(sum(as_numbers(shares)) + one_number(left), 1)

    def test_a_web_of_very_many_groups(self):
        self.assertEqual(drawn_by(LONGEST, 9), drawn_past_by_past(LONGEST, 9))
        # One past alone of 49 moves lets all meet, in the state that `push` pushes onto.
        shares = [(0, 1)] * 8
        shares[1] = (1, 2**49)
        self.assertEqual(drawn_by(LONGEST, 48), (((0, 1),) * 8, (1, 1)))
        self.assertEqual(drawn_by(LONGEST, 49), (tuple(shares), (2**49 - 1, 2**49)))
        self.assertEqual(far_enough(LONGEST, (1, 2**49)), 49)
        self.assertEqual(far_enough(LONGEST, (2, 2**49)), 50)

    def test_somewhat_more_is_no_error(self):
        self.assertEqual(one_number(drawn_by(SLOW, 75)[1]), Fraction(99, 100) ** 75)

    def test_as_going_through_all_pasts_tells(self):
        for web in small_webs():
            for many in range(5):
                self.assertEqual(drawn_by(web, many), drawn_past_by_past(web, many))
        for web in mixed_webs(5, 4):
            for many in range(5):
                self.assertEqual(drawn_by(web, many), drawn_past_by_past(web, many))
        for web in (STEPS, OUTSIDE, SPLIT):
            self.assertEqual(drawn_by(web, 7), drawn_past_by_past(web, 7))

    def test_they_rise_up_to_the_resting_shares(self):
        for web in itertools.chain(small_webs(), mixed_webs(5, 6)):
            try:
                rest = as_numbers(resting(web))
            except NoRest:
                rest = None
            before = [Fraction(0)] * len(web[0])
            for many in (0, 1, 2, 3, 5, 9, 20):
                told, left = drawn_by(web, many)
                shares = as_numbers(told)
                self.assertTrue(all(share >= earlier for share, earlier in zip(shares, before)))
                self.assertEqual(sum(shares) + one_number(left), 1)
                if rest is not None:
                    self.assertTrue(all(share <= most for share, most in zip(shares, rest)))
                    self.assertTrue(all(share + one_number(left) >= most for share, most in zip(shares, rest)))
                before = shares

    def test_kinds_of_what_is_told(self):
        for web, many in ((STEPS, 0), (STEPS, 30), (ONE, 3), (GREATEST, 2)):
            told = drawn_by(web, many)
            self.assertIs(type(told), tuple)
            self.assertEqual(len(told), 2)
            self.assertEqual(len(told[0]), len(web[0]))
            assert_fractions(self, told[0])
            assert_fraction(self, told[1])


class FarTest(unittest.TestCase):
    def test_a_share_of_nought_needs_no_moves(self):
        for web in (ONE, STEPS, SPLIT, GREATEST):
            self.assertEqual(far_enough(web, (0, 1)), 0)

    def test_one_state_alone_needs_none(self):
        for share in ((0, 1), (1, 2), (999999999998, 999999999999)):
            self.assertEqual(far_enough(ONE, share), 0)

    def test_at_least_so_much(self):
        self.assertEqual(far_enough(HALVES, (1, 999999999999)), 1)
        self.assertEqual(far_enough(HALVES, (1, 2)), 1)
        self.assertEqual(far_enough(HALVES, (3, 4)), 2)
        self.assertEqual(far_enough(HALVES, (750000000001, 10**12)), 3)
        self.assertEqual(far_enough(HALVES, (749999999999, 10**12)), 2)

    def test_one_move_that_always_lets_them_meet(self):
        web = (("a", "b"), (("fall", 5, ("b", "b")),))
        self.assertEqual(far_enough(web, (999999999998, 999999999999)), 1)

    def test_four_hundred_are_told_more_are_not(self):
        self.assertEqual(far_enough(SLOW, (491, 500)), 400)
        self.assertIsNone(far_enough(SLOW, (4911, 5000)))
        self.assertLess(Fraction(99, 100) ** 400, Fraction(9, 500))
        self.assertLess(Fraction(9, 500), Fraction(99, 100) ** 399)
        self.assertLess(Fraction(99, 100) ** 401, Fraction(89, 5000))
        self.assertLess(Fraction(89, 5000), Fraction(99, 100) ** 400)

    def test_what_is_told_may_be_handed_on(self):
        for many in (60, 399, 400, 401):
            met = as_pair(1 - Fraction(99, 100) ** many)
            self.assertEqual(far_enough(SLOW, met), many if many <= 400 else None)

    def test_where_it_is_never(self):
        for web in (SPLIT, GREATEST, (("a", "b"), (("x", 1, ("a", "b")),))):
            self.assertIsNone(far_enough(web, (1, 999999999999)))
            self.assertIsNone(far_enough(web, (1, 2)))

    def test_as_trying_every_number_tells(self):
        shares = ((1, 1000), (1, 3), (1, 2), (5, 9), (99, 100))
        for web in itertools.chain(small_webs(), mixed_webs(4, 4)):
            met = [1 - one_number(drawn_by(web, many)[1]) for many in range(25)]
            for share in shares:
                due = [many for many in range(25) if met[many] >= one_number(share)]
                if due:
                    told = far_enough(web, share)
                    self.assertEqual(told, due[0])
                    self.assertIs(type(told), int)

    def test_a_share_that_is_just_drawn(self):
        for many in range(2, 8):
            left = one_number(drawn_by(STEPS, many)[1])
            self.assertEqual(far_enough(STEPS, as_pair(1 - left)), many)


if __name__ == "__main__":
    unittest.main()
