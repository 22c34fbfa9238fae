"""Promises [13] and [14]: how many moves back, and how many moves of a walk, are needed on average."""

import itertools
import unittest
from fractions import Fraction

from tests.webs import (
    GREATEST, LONGEST, ONE, OUTSIDE, SLOW, SPLIT, STEPS, all_pasts, assert_fraction, mixed_webs, one_number, share_of,
    small_webs, walked,
)
from walksago.draws.backward import drawn_by
from walksago.errors import NoName
from walksago.meets.ever import shortest_past
from walksago.meets.howlong import back_on_average, walk_on_average

# A walk from a comes to b, from b to c or d; neither of these two is left again.
PARTED = (("a", "b", "c", "d"), (("x", 1, ("b", "c", "c", "d")), ("y", 2, ("a", "d", "c", "d"))))


def apart_past_by_past(web, many):
    """The share of those pasts of so many moves that do not meet."""
    pasts = [past for past in all_pasts(web, many) if len(past) == many]
    return sum(share_of(web, past) for past in pasts if len(set(walked(web, past))) > 1)


def next_ones(web, state):
    """Where each move leads a state, with its share."""
    states, moves = web
    whole = sum(weight for name, weight, images in moves)
    return [(images[states.index(state)], Fraction(weight, whole)) for name, weight, images in moves]


def come_to(web, state, goal):
    """All states on walks from a state that end at the goal, itself too."""
    found = [state]
    for one in found:
        if one != goal:
            found.extend({other for other, share in next_ones(web, one)} - set(found))
    return found


class BackTest(unittest.TestCase):
    def test_one_state_alone_needs_none(self):
        self.assertEqual(back_on_average(ONE), (0, 1))
        self.assertEqual(back_on_average((("b",), (("x", 4, ("b",)), ("a", 1, ("b",))))), (0, 1))

    def test_webs_that_can_be_reckoned_by_hand(self):
        self.assertEqual(back_on_average(SLOW), (100, 1))
        self.assertEqual(back_on_average((("a", "b"), (("fall", 5, ("b", "b")),))), (1, 1))
        web = (("a", "b"), (("fall", 3, ("b", "b")), ("stay", 4, ("a", "b")), ("turn", 1, ("b", "a"))))
        self.assertEqual(back_on_average(web), (8, 3))
        # The first move leaves two states, which meet by the first one that is like the one just ahead of it.
        web = (("a", "b", "c"), (("down", 1, ("a", "a", "b")), ("up", 1, ("b", "c", "c"))))
        self.assertEqual(back_on_average(web), (3, 1))

    def test_where_all_never_meet(self):
        for web in (SPLIT, (("a", "b"), (("x", 1, ("b", "a")), ("y", 8, ("a", "b"))))):
            self.assertIsNone(back_on_average(web))

    def test_some_of_the_states_meet_but_not_all(self):
        self.assertIsNone(back_on_average((("a", "b", "c"), (("x", 1, ("a", "a", "c")),))))

    def test_just_where_all_ever_meet_it_is_told(self):
        for web in itertools.chain(small_webs(), mixed_webs(5, 5)):
            told = back_on_average(web)
            self.assertEqual(told is None, shortest_past(web) is None)
            if told is not None:
                assert_fraction(self, told)

    def test_between_what_parts_of_the_sum_allow(self):
        # Behind so many moves at most the share of those left goes through as much again.
        for web in itertools.chain(small_webs(), mixed_webs(5, 5)):
            told = back_on_average(web)
            if told is None:
                continue
            left = [one_number(drawn_by(web, many)[1]) for many in range(61)]
            part = sum(left[:60])
            self.assertLessEqual(part, one_number(told))
            self.assertLessEqual(one_number(told) * (1 - left[60]), part)

    def test_as_going_through_all_pasts_tells(self):
        for web in itertools.islice(small_webs(), 0, None, 5):
            told = back_on_average(web)
            if told is None:
                continue
            left = [apart_past_by_past(web, many) for many in range(8)]
            self.assertLessEqual(sum(left[:7]), one_number(told))
            self.assertLessEqual(one_number(told) * (1 - left[7]), sum(left[:7]))

    def test_the_first_moves_that_let_all_meet_at_once(self):
        for states in ("ab", "abc", "abcd", "abcde"):
            turn = tuple(states[1:] + states[:1])
            web = (tuple(states), (("turn", 7, turn), ("fall", 2, (states[1],) * len(states))))
            self.assertEqual(back_on_average(web), (9, 2))

    def test_of_more_states_is_no_error(self):
        self.assertIsNone(back_on_average(GREATEST))
        states = GREATEST[0][:6]
        web = (states, (("turn", 1, states[1:] + states[:1]), ("push", 1, (states[1],) + states[1:])))
        assert_fraction(self, back_on_average(web))


class WalkTest(unittest.TestCase):
    def test_the_told_state_itself(self):
        self.assertEqual(walk_on_average(ONE, "a"), ((0, 1),))
        for web in (STEPS, SPLIT, OUTSIDE, PARTED):
            for at, state in enumerate(web[0]):
                self.assertEqual(walk_on_average(web, state)[at], (0, 1))

    def test_webs_that_can_be_reckoned_by_hand(self):
        self.assertEqual(walk_on_average(SLOW, "a"), ((0, 1), (1, 1)))
        self.assertEqual(walk_on_average(SLOW, "b"), ((100, 99), (0, 1)))
        self.assertEqual(walk_on_average(STEPS, "c"), ((15, 1), (27, 2), (0, 1)))
        turns = (("a", "b", "c"), (("x", 9, ("b", "c", "a")),))
        self.assertEqual(walk_on_average(turns, "a"), ((0, 1), (2, 1), (1, 1)))

    def test_states_from_which_it_is_not_come_to(self):
        self.assertEqual(walk_on_average(OUTSIDE, "a"), ((0, 1), None, None))
        stay = (("a", "b"), (("x", 1, ("a", "b")),))
        self.assertEqual(walk_on_average(stay, "a"), ((0, 1), None))

    def test_a_walk_that_may_get_lost(self):
        self.assertEqual(walk_on_average(PARTED, "c"), (None, None, (0, 1), None))
        self.assertEqual(walk_on_average(PARTED, "d"), (None, None, None, (0, 1)))

    def test_a_walk_that_may_get_lost_only_behind_the_told_state(self):
        self.assertEqual(walk_on_average(PARTED, "b"), ((3, 1), (0, 1), None, None))
        self.assertEqual(walk_on_average(OUTSIDE, "b"), ((3, 1), (0, 1), (1, 1)))
        self.assertEqual(walk_on_average(SPLIT, "a"), ((0, 1), None, None, None, (4, 1)))

    def test_a_name_that_is_no_state(self):
        for word in ("z", "down", "", "ab"):
            with self.assertRaises(NoName) as caught:
                walk_on_average(STEPS, word)
            self.assertEqual(caught.exception.word, word)
        self.assertRaises(NoName, walk_on_average, ONE, "b")

    def test_a_state_that_has_the_name_of_a_move(self):
        web = (("up", "b"), (("c", 1, ("b", "up")), ("up", 7, ("up", "up"))))
        self.assertEqual(walk_on_average(web, "up"), ((0, 1), (1, 1)))
        self.assertRaises(NoName, walk_on_average, web, "c")

    def test_as_going_through_all_steps_tells(self):
        for web in itertools.chain(small_webs(), mixed_webs(5, 5), (LONGEST, GREATEST, PARTED)):
            for goal in web[0]:
                told = walk_on_average(web, goal)
                self.assertIs(type(told), tuple)
                waits = dict(zip(web[0], told, strict=True))
                for state in web[0]:
                    found = come_to(web, state, goal)
                    if any(goal not in come_to(web, one, goal) for one in found):
                        self.assertIsNone(waits[state])
                        continue
                    assert_fraction(self, waits[state])
                    if state != goal:
                        # One move, then what is left: just one row of numbers is such.
                        due = 1 + sum(share * one_number(waits[other]) for other, share in next_ones(web, state))
                        self.assertEqual(one_number(waits[state]), due)


if __name__ == "__main__":
    unittest.main()
