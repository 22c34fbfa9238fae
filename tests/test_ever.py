"""Promises [11] and [12]: the shortest past, pairs that never meet, and the looker at such pairs."""

import itertools
import unittest

from tests.webs import (
    EIGHT_NAMES, GREATEST, LONGEST, ONE, OUTSIDE, SLOW, SPLIT, STEPS, all_pasts, mixed_webs, small_webs, walked,
)
from walksago.meets.ever import never_meeting, never_shown, shortest_past
from walksago.moves.done import met_by

TURNS = (("a", "b", "c"), (("x", 1, ("b", "c", "a")), ("y", 1, ("b", "a", "c"))))
ALL_TURNS = (("a", "b"), ("a", "c"), ("b", "c"))


def shortest_by_trying(web, longest):
    """All pasts tried, shorter ones first, then by the moves' order."""
    for past in all_pasts(web, longest):
        if len(set(walked(web, past))) == 1:
            return past
    return None


def never_by_trying(web, longest):
    ends = [walked(web, past) for past in all_pasts(web, longest)]
    pairs = itertools.combinations(range(len(web[0])), 2)
    return tuple(
        (web[0][one], web[0][other]) for one, other in pairs if all(led[one] != led[other] for led in ends)
    )


def shown_move_by_move(web, pairs):
    states, moves = web
    if not pairs or not all(one != other and {one, other} <= set(states) for one, other in pairs):
        return False
    told = {frozenset(pair) for pair in pairs}
    return all(
        frozenset((images[states.index(one)], images[states.index(other)])) in told
        for name, weight, images in moves
        for one, other in pairs
    )


class ShortestTest(unittest.TestCase):
    def test_one_state_alone_meets_by_the_empty_past(self):
        self.assertEqual(shortest_past(ONE), ())
        self.assertEqual(shortest_past((("b",), (("x", 4, ("b",)), ("a", 1, ("b",))))), ())

    def test_an_ordinary_web(self):
        self.assertEqual(shortest_past(STEPS), ("down", "down"))
        self.assertEqual(shortest_past(SLOW), ("fall",))

    def test_the_first_of_several_by_the_moves_order_not_by_their_names(self):
        fall = ("b", "b", "b")
        self.assertEqual(shortest_past((("a", "b", "c"), (("z", 1, fall), ("a", 9, fall)))), ("z",))
        self.assertEqual(shortest_past((("a", "b", "c"), (("a", 1, fall), ("z", 9, fall)))), ("a",))
        states, moves = STEPS
        self.assertEqual(shortest_past((states, (moves[1], moves[0], moves[2]))), ("up", "up"))
        self.assertEqual(shortest_past((states, moves[::-1])), ("up", "up"))

    def test_the_move_longest_ago_decides_first(self):
        # Both (x, y) and (y, x) let all meet, and no other past of two moves does.
        x, y = ("x", 1, ("a", "a", "c")), ("y", 1, ("a", "b", "a"))
        self.assertEqual(shortest_past((("a", "b", "c"), (x, y))), ("x", "y"))
        self.assertEqual(shortest_past((("a", "b", "c"), (y, x))), ("y", "x"))

    def test_where_all_never_meet(self):
        for web in (SPLIT, TURNS, GREATEST):
            self.assertIsNone(shortest_past(web))

    def test_the_longest_one_that_is_needed(self):
        past = shortest_past(LONGEST)
        self.assertEqual(past, ("push",) + (("turn",) * 7 + ("push",)) * 6)
        self.assertEqual(len(past), 49)
        self.assertEqual(met_by(LONGEST, past)[1], 49)

    def test_as_trying_all_pasts_tells(self):
        for web in small_webs():
            told = shortest_past(web)
            self.assertEqual(told, shortest_by_trying(web, 4))
            self.assertIn(type(told), (tuple, type(None)))
        for web in mixed_webs(5, 5):
            told = shortest_past(web)
            if told is not None and len(told) <= 5:
                self.assertEqual(told, shortest_by_trying(web, 5))
            else:
                self.assertIsNone(shortest_by_trying(web, 4))


class NeverTest(unittest.TestCase):
    def test_where_all_meet(self):
        for web in (ONE, STEPS, SLOW, LONGEST):
            self.assertEqual(never_meeting(web), ())

    def test_some_pairs_never_meet(self):
        self.assertEqual(never_meeting(TURNS), ALL_TURNS)
        web = (("a", "b", "c"), (("x", 1, ("a", "a", "c")),))
        self.assertEqual(never_meeting(web), (("a", "c"), ("b", "c")))

    def test_in_the_states_order_not_by_their_names(self):
        web = (("c", "a", "b"), (("x", 1, ("c", "a", "b")),))
        self.assertEqual(never_meeting(web), (("c", "a"), ("c", "b"), ("a", "b")))

    def test_the_greatest_web(self):
        self.assertEqual(never_meeting(GREATEST), tuple(itertools.combinations(EIGHT_NAMES, 2)))

    def test_as_trying_all_pasts_tells(self):
        for web in small_webs():
            self.assertEqual(never_meeting(web), never_by_trying(web, 3))
        for web in mixed_webs(4, 3):
            self.assertEqual(never_meeting(web), never_by_trying(web, 6))

    def test_there_are_some_just_where_all_never_meet(self):
        for web in itertools.chain(small_webs(), mixed_webs(5, 5)):
            self.assertEqual(never_meeting(web) == (), shortest_past(web) is not None)

    def test_kinds_of_what_is_told(self):
        told = never_meeting(TURNS)
        self.assertEqual({type(one) for one in (told, *told)}, {tuple})
        self.assertEqual({type(state) for pair in told for state in pair}, {str})


class ShownTest(unittest.TestCase):
    def test_pairs_that_show_it(self):
        self.assertIs(never_shown(TURNS, ALL_TURNS), True)
        stay = (("a", "b", "c"), (("x", 1, ("a", "b", "b")),))
        self.assertIs(never_shown(stay, (("a", "b"),)), True)
        self.assertIs(never_shown(stay, (("a", "c"), ("a", "b"))), True)

    def test_in_either_order_and_more_than_once(self):
        self.assertIs(never_shown(TURNS, (("b", "a"), ("a", "c"), ("c", "b"))), True)
        self.assertIs(never_shown(TURNS, ALL_TURNS * 2 + (("c", "a"), ("b", "a"))), True)
        self.assertIs(never_shown((("a", "b"), (("x", 1, ("b", "a")),)), (("a", "b"),)), True)

    def test_a_pair_that_is_led_out_of_them(self):
        self.assertIs(never_shown(TURNS, (("a", "b"), ("a", "c"))), False)
        stay = (("a", "b", "c"), (("x", 1, ("a", "b", "b")),))
        self.assertIs(never_shown(stay, (("a", "c"),)), False)

    def test_a_pair_that_meets(self):
        stay = (("a", "b", "c"), (("x", 1, ("a", "b", "b")),))
        self.assertIs(never_shown(stay, (("b", "c"), ("a", "b"))), False)
        self.assertIs(never_shown(STEPS, ALL_TURNS), False)

    def test_no_pair_at_all(self):
        for web in (ONE, STEPS, TURNS):
            self.assertIs(never_shown(web, ()), False)

    def test_like_states(self):
        self.assertIs(never_shown(TURNS, (("a", "a"),)), False)
        self.assertIs(never_shown(TURNS, ALL_TURNS + (("b", "b"),)), False)
        self.assertIs(never_shown(ONE, (("a", "a"),)), False)

    def test_names_that_are_no_states(self):
        for pair in (("a", "x"), ("x", "a"), ("y", "z"), ("x", "x"), ("", "a")):
            self.assertIs(never_shown(TURNS, ALL_TURNS + (pair,)), False)
            self.assertIs(never_shown(TURNS, (pair,) + ALL_TURNS), False)
            self.assertIs(never_shown(TURNS, (pair,)), False)

    def test_as_looking_move_by_move_tells(self):
        tried = (("a", "b"), ("c", "a"), ("b", "c"), ("a", "a"), ("d", "b"))
        for web in small_webs():
            for many in range(4):
                for pairs in itertools.combinations(tried, many):
                    self.assertIs(never_shown(web, pairs), shown_move_by_move(web, pairs))

    def test_the_pairs_that_never_meet_show_it(self):
        for web in itertools.chain(small_webs(), mixed_webs(5, 5), (GREATEST, SPLIT, OUTSIDE)):
            pairs = never_meeting(web)
            self.assertIs(never_shown(web, pairs), pairs != ())


if __name__ == "__main__":
    unittest.main()
