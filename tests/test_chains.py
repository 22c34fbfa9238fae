"""Promises [7] and [8]: the table of shares, closed classes and resting shares."""

import itertools
import unittest
from fractions import Fraction

from tests.webs import (
    GREATEST, ONE, OUTSIDE, SPLIT, STEPS, all_pasts, as_numbers, as_pair, assert_fractions, mixed_webs, small_webs,
    walked,
)
from walksago.errors import NoRest
from walksago.shares.chains import closed_classes, resting, rests, table_of


def table_move_by_move(web):
    states, moves = web
    whole = sum(weight for name, weight, images in moves)
    return tuple(
        tuple(
            as_pair(sum(Fraction(weight, whole) for name, weight, images in moves if images[at] == other))
            for other in states
        )
        for at in range(len(states))
    )


def classes_by_all_sets(web):
    """Every set of states tried, with all that pasts long enough lead to."""
    states = web[0]
    ends = [walked(web, past) for past in all_pasts(web, len(states) - 1)]
    reached = [{led[at] for led in ends} for at in range(len(states))]
    closed = []
    for many in range(1, len(states) + 1):
        for chosen in itertools.combinations(states, many):
            if all(reached[states.index(state)] == set(chosen) for state in chosen):
                closed.append(chosen)
    return tuple(sorted(closed, key=lambda chosen: states.index(chosen[0])))


def comes_into(web, shares):
    """What comes into each state out of all shares."""
    table = [as_numbers(row) for row in table_of(web)]
    return [sum(share * row[at] for share, row in zip(shares, table)) for at in range(len(shares))]


class TableTest(unittest.TestCase):
    def test_an_ordinary_web(self):
        told = (((1, 3), (2, 3), (0, 1)), ((5, 6), (0, 1), (1, 6)), ((0, 1), (1, 3), (2, 3)))
        self.assertEqual(table_of(STEPS), told)

    def test_one_state_alone(self):
        self.assertEqual(table_of(ONE), (((1, 1),),))

    def test_the_greatest_web(self):
        self.assertEqual(table_of(GREATEST), (((1, 8),) * 8,) * 8)

    def test_as_going_through_the_moves_tells(self):
        for web in itertools.chain(small_webs(), mixed_webs(5, 8)):
            told = table_of(web)
            self.assertEqual(told, table_move_by_move(web))
            self.assertIs(type(told), tuple)
            for row in told:
                assert_fractions(self, row)
                self.assertEqual(sum(as_numbers(row)), 1)


class ClosedTest(unittest.TestCase):
    def test_one_class_of_all(self):
        self.assertEqual(closed_classes(STEPS), (("a", "b", "c"),))
        self.assertEqual(closed_classes(ONE), (("a",),))
        self.assertEqual(closed_classes(GREATEST), (GREATEST[0],))

    def test_one_class_with_states_outside_of_it(self):
        self.assertEqual(closed_classes(OUTSIDE), (("b", "c"),))

    def test_several_classes_by_their_first_ones(self):
        self.assertEqual(closed_classes(SPLIT), (("b", "d"), ("c",)))
        stay = (("c", "a", "b"), (("x", 1, ("c", "a", "b")),))
        self.assertEqual(closed_classes(stay), (("c",), ("a",), ("b",)))
        swap = (("d", "c", "b", "a"), (("x", 1, ("a", "b", "c", "d")),))
        self.assertEqual(closed_classes(swap), (("d", "a"), ("c", "b")))

    def test_as_going_through_all_sets_tells(self):
        for web in itertools.chain(small_webs(), mixed_webs(5, 3)):
            told = closed_classes(web)
            self.assertEqual(told, classes_by_all_sets(web))
            self.assertEqual({type(one) for one in (told, *told)}, {tuple})


class RestingTest(unittest.TestCase):
    def test_an_ordinary_web(self):
        self.assertEqual(resting(STEPS), ((5, 11), (4, 11), (2, 11)))

    def test_one_state_alone(self):
        self.assertEqual(resting(ONE), ((1, 1),))

    def test_states_outside_of_the_class_have_nothing(self):
        self.assertEqual(resting(OUTSIDE), ((0, 1), (3, 4), (1, 4)))
        for states in (("a", "b"), ("b", "a")):
            web = (states, (("x", 1, ("a", "a")),))
            self.assertEqual(resting(web), tuple((1, 1) if state == "a" else (0, 1) for state in states))

    def test_states_that_only_take_turns(self):
        turns = (("a", "b", "c"), (("x", 9, ("b", "c", "a")),))
        self.assertEqual(resting(turns), ((1, 3),) * 3)

    def test_the_greatest_web(self):
        self.assertEqual(resting(GREATEST), ((1, 8),) * 8)

    def test_several_classes_are_refused(self):
        for web in (SPLIT, (("a", "b"), (("x", 1, ("a", "b")),))):
            with self.assertRaises(NoRest) as caught:
                resting(web)
            self.assertIs(type(str(caught.exception)), str)

    def test_just_where_there_is_one_class_they_are_told(self):
        for web in itertools.chain(small_webs(), mixed_webs(5, 8)):
            if len(classes_by_all_sets(web) if len(web[0]) < 4 else closed_classes(web)) != 1:
                self.assertRaises(NoRest, resting, web)
                continue
            told = resting(web)
            assert_fractions(self, told)
            shares = as_numbers(told)
            self.assertEqual(len(shares), len(web[0]))
            self.assertGreaterEqual(min(shares), 0)
            self.assertEqual(sum(shares), 1)
            self.assertEqual(comes_into(web, shares), shares)
            self.assertIs(rests(web, told), True)


class RestsTest(unittest.TestCase):
    STAY = (("a", "b"), (("x", 1, ("a", "b")), ("y", 4, ("a", "b"))))

    def test_those_that_rest(self):
        self.assertIs(rests(STEPS, ((5, 11), (4, 11), (2, 11))), True)
        self.assertIs(rests(ONE, ((1, 1),)), True)

    def test_many_rows_rest_where_there_are_several_classes(self):
        for above in range(8):
            self.assertIs(rests(self.STAY, (as_pair(Fraction(above, 7)), as_pair(Fraction(7 - above, 7)))), True)
        self.assertIs(rests(SPLIT, ((0, 1), (1, 6), (2, 3), (1, 6), (0, 1))), True)
        self.assertIs(rests(SPLIT, ((0, 1), (1, 3), (2, 3), (0, 1), (0, 1))), False)

    def test_others_do_not(self):
        self.assertIs(rests(STEPS, ((1, 3), (1, 3), (1, 3))), False)
        self.assertIs(rests(STEPS, ((4, 11), (5, 11), (2, 11))), False)
        self.assertIs(rests(OUTSIDE, ((1, 4), (1, 2), (1, 4))), False)
        self.assertIs(rests(OUTSIDE, ((0, 1), (1, 4), (3, 4))), False)

    def test_too_few_or_too_many(self):
        for shares in ((), ((1, 1),), ((5, 11), (6, 11)), ((5, 11), (4, 11), (2, 11), (0, 1))):
            self.assertIs(rests(STEPS, shares), False)
        self.assertIs(rests(ONE, ()), False)
        self.assertIs(rests(ONE, ((1, 1), (0, 1))), False)

    def test_below_nought(self):
        # All but this holds: together they are 1, and each is what comes into it.
        self.assertIs(rests(self.STAY, ((-1, 2), (3, 2))), False)
        self.assertIs(rests(self.STAY, ((2, 1), (-1, 1))), False)

    def test_not_together_1(self):
        self.assertIs(rests(STEPS, ((0, 1), (0, 1), (0, 1))), False)
        self.assertIs(rests(STEPS, ((10, 11), (8, 11), (4, 11))), False)
        self.assertIs(rests(self.STAY, ((1, 3), (1, 3))), False)
        self.assertIs(rests(ONE, ((2, 1),)), False)

    def test_fractions_of_twelve_figures(self):
        below = 999999999989
        self.assertIs(rests(self.STAY, ((1, below), (below - 1, below))), True)
        self.assertIs(rests(self.STAY, ((1, below), (below - 2, below))), False)
        self.assertIs(rests(STEPS, ((5, 11), (363636363637, 10**12), (2, 11))), False)

    def test_as_reckoning_with_all_shares_of_few_parts_tells(self):
        for web in itertools.islice(small_webs(), 11, None, 3):
            for parts in itertools.product(range(-1, 5), repeat=3):
                shares = [Fraction(part, 4) for part in parts]
                due = min(shares) >= 0 and sum(shares) == 1 and comes_into(web, shares) == shares
                self.assertIs(rests(web, tuple(as_pair(share) for share in shares)), due)


if __name__ == "__main__":
    unittest.main()
