"""Promise [23]: which states are enough to watch, and the fewest of them."""

import itertools
import unittest

from tests.webs import GREATEST, LONGEST, ONE, OUTSIDE, SPLIT, STEPS, all_pasts, mixed_webs, small_webs, walked
from walksago.errors import NoName
from walksago.meets.ever import never_meeting, shortest_past
from walksago.watched.few import fewest, is_enough

DOWN_UP = (STEPS[0], STEPS[1][:2])
TURNS = (("a", "b", "c"), (("turn", 1, ("b", "c", "a")), ("swap", 1, ("b", "a", "c"))))
# a and b meet, c does not meet with them ever.
BESIDE = (("a", "b", "c"), (("x", 1, ("a", "a", "c")),))


def chosen(states):
    """All sets of states, the fewest first, then by their places."""
    for many in range(len(states) + 1):
        yield from itertools.combinations(states, many)


def enough_past_by_past(web, watched, longest):
    for past in all_pasts(web, longest):
        ends = dict(zip(web[0], walked(web, past)))
        if len({ends[state] for state in watched}) <= 1 and len(set(ends.values())) > 1:
            return False
    return True


def all_ends(web):
    """Every row of images to which any past leads all states."""
    states, moves = web
    found = [states]
    seen = {states}
    for led in found:
        for name, weight, images in moves:
            after = tuple(images[states.index(state)] for state in led)
            if after not in seen:
                seen.add(after)
                found.append(after)
    return found


def enough_row_by_row(web, watched, rows):
    return all(
        len(set(led)) == 1 or len({led[web[0].index(state)] for state in watched}) > 1
        for led in rows
    )


def fewest_row_by_row(web):
    rows = all_ends(web)
    return next(watched for watched in chosen(web[0]) if enough_row_by_row(web, watched, rows))


class EnoughTest(unittest.TestCase):
    def test_two_ends_that_let_all_meet(self):
        self.assertIs(is_enough(DOWN_UP, ("a", "c")), True)
        self.assertIs(is_enough(DOWN_UP, ("a", "b")), False)
        self.assertIs(is_enough(DOWN_UP, ("b", "c")), False)
        self.assertIs(is_enough(DOWN_UP, ("a", "b", "c")), True)

    def test_states_in_any_order(self):
        for web, watched in ((DOWN_UP, ("a", "c")), (DOWN_UP, ("a", "b")), (STEPS, STEPS[0]), (SPLIT, ("a", "b", "d"))):
            told = [is_enough(web, row) for row in itertools.permutations(watched)]
            self.assertEqual(len(set(told)), 1)

    def test_the_empty_tuple(self):
        self.assertIs(is_enough(ONE, ()), True)
        for web in (STEPS, DOWN_UP, SPLIT, TURNS, BESIDE, GREATEST):
            self.assertIs(is_enough(web, ()), False)

    def test_one_state_alone_of_several(self):
        self.assertIs(is_enough(ONE, ("a",)), True)
        fall = (("a", "b"), (("fall", 1, ("a", "a")),))
        for web in (STEPS, DOWN_UP, SPLIT, TURNS, BESIDE, GREATEST, fall):
            for state in web[0]:
                self.assertIs(is_enough(web, (state,)), False)

    def test_all_states_are_enough(self):
        for web in itertools.chain(small_webs(), (LONGEST, GREATEST, SPLIT)):
            self.assertIs(is_enough(web, web[0]), True)

    def test_where_all_never_meet_those_are_that_never_meet_themselves(self):
        for pair in itertools.combinations("abc", 2):
            self.assertIs(is_enough(TURNS, pair), True)
        self.assertIs(is_enough(BESIDE, ("a", "b")), False)
        self.assertIs(is_enough(BESIDE, ("a", "c")), True)
        self.assertIs(is_enough(BESIDE, ("c", "b")), True)

    def test_names_that_are_no_states(self):
        for watched, word in ((("a", "z"), "z"), (("down",), "down"), (("y", "a", "x"), "y"), (("",), "")):
            with self.assertRaises(NoName) as caught:
                is_enough(STEPS, watched)
            self.assertEqual(caught.exception.word, word)
        self.assertRaises(NoName, is_enough, ONE, ("b",))
        web = (("up", "b"), (("c", 1, ("b", "up")), ("up", 7, ("up", "up"))))
        self.assertIs(is_enough(web, ("b", "up")), True)
        self.assertRaises(NoName, is_enough, web, ("b", "c"))

    def test_as_going_through_all_pasts_tells(self):
        for web in itertools.chain(small_webs(), mixed_webs(4, 3, 16)):
            for watched in chosen(web[0]):
                told = is_enough(web, watched)
                self.assertIs(type(told), bool)
                # Pasts of four moves show of three states, not of more, all that can become of them.
                if told or len(web[0]) < 4:
                    self.assertEqual(told, enough_past_by_past(web, watched, 4))

    def test_as_going_through_all_rows_of_images_tells(self):
        for web in itertools.chain(small_webs(), mixed_webs(5, 4), (STEPS, OUTSIDE, SPLIT)):
            rows = all_ends(web)
            for watched in chosen(web[0]):
                self.assertEqual(is_enough(web, watched), enough_row_by_row(web, watched, rows))


class FewestTest(unittest.TestCase):
    def test_one_state_alone_needs_none(self):
        self.assertEqual(fewest(ONE), ())
        self.assertEqual(fewest((("b",), (("x", 4, ("b",)), ("a", 1, ("b",))))), ())

    def test_ordinary_webs(self):
        self.assertEqual(fewest(DOWN_UP), ("a", "c"))
        self.assertEqual(fewest(STEPS), ("a", "b", "c"))
        self.assertEqual(fewest((("c", "b", "a"), (("x", 1, ("c", "c", "b")), ("y", 1, ("b", "a", "a"))))), ("c", "a"))

    def test_of_several_the_first_by_their_places(self):
        self.assertEqual(fewest(TURNS), ("a", "b"))
        other = (("z", "m", "b"), (("turn", 1, ("m", "b", "z")), ("swap", 1, ("m", "z", "b"))))
        self.assertEqual(fewest(other), ("z", "m"))
        self.assertEqual(fewest(BESIDE), ("a", "c"))
        self.assertEqual(fewest((("c", "b", "a"), (("x", 1, ("a", "a", "a")),))), ("c", "b"))

    def test_the_first_place_counts_first(self):
        # (a, d) and (b, c) are enough, no other two.
        web = (tuple("abcd"), (("x", 1, tuple("aabb")), ("y", 1, tuple("abab"))))
        self.assertIs(is_enough(web, ("b", "c")), True)
        self.assertEqual(fewest(web), ("a", "d"))

    def test_in_the_order_of_the_states(self):
        for web in mixed_webs(5, 4):
            told = fewest(web)
            self.assertEqual(told, tuple(state for state in web[0] if state in told))

    def test_where_all_never_meet_a_pair_does(self):
        for web in itertools.chain(small_webs(), mixed_webs(5, 5), (SPLIT, GREATEST)):
            if shortest_past(web) is None:
                self.assertEqual(fewest(web), never_meeting(web)[0])

    def test_the_greatest_webs(self):
        self.assertEqual(fewest(GREATEST), GREATEST[0][:2])
        # Any seven neighbours can be pushed together while the eighth is still apart.
        self.assertEqual(fewest(LONGEST), LONGEST[0])
        order = GREATEST[0]
        web = (order, (("down", 1, order[:1] + order[:7]), ("up", 99, order[1:] + order[7:])))
        self.assertEqual(fewest(web), (order[0], order[7]))

    def test_as_going_through_all_sets_tells(self):
        for web in itertools.chain(small_webs(), mixed_webs(5, 4), (STEPS, OUTSIDE, SPLIT)):
            told = fewest(web)
            self.assertIs(type(told), tuple)
            self.assertEqual(told, fewest_row_by_row(web))
            self.assertIs(is_enough(web, told), True)


if __name__ == "__main__":
    unittest.main()
