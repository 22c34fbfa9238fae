"""Promises [5] and [6]: where pasts lead, and where all meet; [2] as far as it speaks of them."""

import copy
import unittest

from tests.webs import EIGHT_NAMES, GREATEST, ONE, STEPS, all_pasts, small_webs, walked
from walksago.errors import NoName
from walksago.moves.done import led_by, met_by


def met_by_trying(web, past):
    """Every number of last moves tried, from 0 on."""
    for many in range(len(past) + 1):
        ends = walked(web, past[len(past) - many:])
        if len(set(ends)) == 1:
            return ends[0], many
    return None


class LedTest(unittest.TestCase):
    def test_no_moves_lead_nowhere_else(self):
        self.assertEqual(led_by(STEPS, ()), ("a", "b", "c"))
        self.assertEqual(led_by(ONE, ()), ("a",))

    def test_one_move(self):
        self.assertEqual(led_by(STEPS, ("down",)), ("a", "a", "b"))
        self.assertEqual(led_by(STEPS, ("turn",)), ("b", "a", "c"))

    def test_the_first_one_is_done_first(self):
        self.assertEqual(led_by(STEPS, ("up", "turn")), ("a", "c", "c"))
        self.assertEqual(led_by(STEPS, ("turn", "up")), ("c", "b", "c"))
        self.assertEqual(led_by(STEPS, ("down", "turn", "up")), ("c", "c", "b"))

    def test_a_state_that_has_the_name_of_a_move(self):
        web = (("up", "b"), (("b", 1, ("b", "up")), ("up", 7, ("up", "up"))))
        self.assertEqual(led_by(web, ("b",)), ("b", "up"))
        self.assertEqual(led_by(web, ("up", "b")), ("b", "b"))

    def test_weights_do_not_matter(self):
        states, moves = STEPS
        heavy = (states, tuple((name, 99, images) for name, weight, images in moves))
        for past in all_pasts(STEPS, 3):
            self.assertEqual(led_by(heavy, past), led_by(STEPS, past))

    def test_as_walking_each_state_by_itself_tells(self):
        for web in small_webs():
            for past in all_pasts(web, 3):
                self.assertEqual(led_by(web, past), walked(web, past))
        for past in all_pasts(STEPS, 6):
            self.assertEqual(led_by(STEPS, past), walked(STEPS, past))

    def test_a_long_past_of_the_greatest_web(self):
        past = (EIGHT_NAMES * 8)[:60]
        self.assertEqual(led_by(GREATEST, past), walked(GREATEST, past))

    def test_a_past_somewhat_longer_is_no_error(self):
        past = EIGHT_NAMES * 9
        self.assertEqual(led_by(GREATEST, past), walked(GREATEST, past))


class MetTest(unittest.TestCase):
    def test_one_state_alone_meets_by_no_moves(self):
        for many in (0, 1, 5, 60):
            self.assertEqual(met_by(ONE, ("a",) * many), ("a", 0))

    def test_more_states_do_not_meet_by_no_moves(self):
        self.assertIsNone(met_by(STEPS, ()))

    def test_where_all_meet(self):
        self.assertEqual(met_by(STEPS, ("down", "down")), ("a", 2))
        self.assertEqual(met_by(STEPS, ("up", "up")), ("c", 2))
        self.assertEqual(met_by(STEPS, ("down", "down", "turn")), ("b", 3))

    def test_where_they_do_not_meet(self):
        for past in (("down",), ("up", "turn"), ("turn",) * 60):
            self.assertIsNone(met_by(STEPS, past))

    def test_one_move_may_be_enough(self):
        web = (("a", "b"), (("fall", 1, ("b", "b")), ("turn", 1, ("b", "a"))))
        self.assertEqual(met_by(web, ("fall",)), ("b", 1))
        self.assertEqual(met_by(web, ("fall", "turn")), ("a", 2))
        self.assertEqual(met_by(web, ("fall", "turn", "fall")), ("b", 1))

    def test_the_least_number_of_last_moves(self):
        # All have met by the first two already, but the last two are enough by themselves.
        self.assertEqual(met_by(STEPS, ("down", "down", "up", "up")), ("c", 2))
        self.assertEqual(met_by(STEPS, ("up", "up", "turn", "down", "down")), ("a", 2))

    def test_as_trying_every_number_tells(self):
        for web in small_webs():
            for past in all_pasts(web, 4):
                self.assertEqual(met_by(web, past), met_by_trying(web, past))
        for past in all_pasts(STEPS, 6):
            self.assertEqual(met_by(STEPS, past), met_by_trying(STEPS, past))

    def test_a_longer_past_tells_the_same_pair(self):
        for past in all_pasts(STEPS, 4):
            met = met_by(STEPS, past)
            if met is None:
                continue
            for earlier in all_pasts(STEPS, 3):
                self.assertEqual(met_by(STEPS, earlier + past), met)
            self.assertEqual(met_by(STEPS, ("turn",) * (60 - len(past)) + past), met)

    def test_a_state_that_has_the_name_of_a_move(self):
        web = (("up", "b"), (("b", 1, ("b", "up")), ("up", 7, ("up", "up"))))
        self.assertEqual(met_by(web, ("up",)), ("up", 1))
        self.assertEqual(met_by(web, ("up", "b")), ("b", 2))

    def test_the_longest_past_may_be_needed_whole(self):
        web = (("a", "b"), (("fall", 1, ("b", "b")), ("turn", 1, ("b", "a"))))
        self.assertEqual(met_by(web, ("fall",) + ("turn",) * 59), ("a", 60))
        self.assertEqual(met_by(web, ("fall",) + ("turn",) * 70), ("b", 71))

    def test_the_greatest_web(self):
        self.assertIsNone(met_by(GREATEST, (EIGHT_NAMES * 8)[:60]))
        fall = ("fall", 99, (EIGHT_NAMES[3],) * 8)
        web = (EIGHT_NAMES, GREATEST[1][:7] + (fall,))
        past = ("fall",) + EIGHT_NAMES[:7] * 5
        self.assertEqual(met_by(web, past), (walked(web, past)[0], 36))


class BothTest(unittest.TestCase):
    def assert_refused(self, web, past, word):
        for ask in (led_by, met_by):
            with self.subTest(ask=ask.__name__, past=past):
                with self.assertRaises(NoName) as caught:
                    ask(web, past)
                self.assertEqual(caught.exception.word, word)

    def test_a_name_that_is_no_move(self):
        self.assert_refused(STEPS, ("left",), "left")
        self.assert_refused(STEPS, ("down", "left"), "left")
        self.assert_refused(STEPS, ("left", "down"), "left")

    def test_the_first_one_in_the_order_of_the_past(self):
        self.assert_refused(STEPS, ("down", "left", "up", "right"), "left")
        self.assert_refused(STEPS, ("right", "down", "left"), "right")
        self.assert_refused(STEPS, ("down", "z", "a", "z"), "z")

    def test_a_state_is_no_move(self):
        self.assert_refused(STEPS, ("down", "a"), "a")

    def test_a_part_of_a_name_is_no_move(self):
        for word in ("dow", "downs", "own", ""):
            self.assert_refused(STEPS, (word,), word)

    def test_ahead_of_moves_that_are_enough(self):
        self.assert_refused(STEPS, ("left", "down", "down", "down"), "left")

    def test_of_one_state_alone(self):
        self.assert_refused(ONE, ("b",), "b")
        self.assert_refused(ONE, ("a", "c", "b"), "c")

    def test_kinds_of_what_is_told(self):
        led = led_by(STEPS, ("down", "up"))
        self.assertIs(type(led), tuple)
        self.assertEqual({type(state) for state in led}, {str})
        self.assertIs(type(led_by(STEPS, ())), tuple)
        for web, past in ((STEPS, ("up", "up")), (ONE, ())):
            met = met_by(web, past)
            self.assertIs(type(met), tuple)
            self.assertEqual([type(part) for part in met], [str, int])

    def test_asked_again_and_nothing_handed_in_is_changed(self):
        web, past = copy.deepcopy(STEPS), ("up", "turn", "down", "down")
        for asked in range(2):
            self.assertEqual(led_by(web, past), ("a", "a", "a"))
            self.assertEqual(met_by(web, past), ("a", 2))
            self.assert_refused(web, past + ("left",), "left")
        self.assertEqual(web, STEPS)
        self.assertEqual(past, ("up", "turn", "down", "down"))


if __name__ == "__main__":
    unittest.main()
