"""Promises [15] and [16]: whether moves keep an order, and where all meet by the least and the greatest state."""

import itertools
import unittest

from tests.webs import ONE, STEPS, all_pasts
from walksago.errors import NoName, NoOrder
from walksago.meets.orders import keep_order, met_by_two
from walksago.moves.done import met_by

CHAIN = (("a", "b"), ("b", "c"))
DOWN_UP = (STEPS[0], STEPS[1][:2])

# Low below left and right, both below high; left and right are not below one another.
DIAMOND = (
    ("left", "low", "high", "right"),
    (
        ("swap", 1, ("right", "low", "high", "left")),
        ("fall", 2, ("low", "low", "right", "right")),
        ("rise", 3, ("high", "left", "high", "left")),
    ),
)
DIAMOND_ORDER = (("low", "left"), ("low", "right"), ("left", "high"), ("right", "high"))

# Of all sorts, as many moves as may be handed in.
EIGHT_MOVES = (
    ("a", "b", "c"),
    tuple(
        (name, 1, tuple(images))
        for name, images in zip("pqrstuvw", ("abc", "bac", "aab", "bcc", "ccc", "cba", "bca", "aca"))
    ),
)


def below_pair_by_pair(states, order):
    """All (lower, upper), by going up pair by pair, as often as there are states."""
    below = set(order)
    for state in states:
        below |= {(lower, upper) for lower, one in below for other, upper in order if one == other}
    return below


def keep_two_by_two(web, order):
    """For each move whether it keeps the order, all twos looked at; None where there is no order."""
    states, moves = web
    below = below_pair_by_pair(states, order)
    if any(lower == upper for lower, upper in below):
        return None
    kept = []
    for name, weight, images in moves:
        led = dict(zip(states, images))
        twos = [(led[one], led[other]) for one in states for other in states if (one, other) in below]
        kept.append(all(two in below or two[0] == two[1] for two in twos))
    return tuple(kept)


def ends_by_looking(states, order):
    below = below_pair_by_pair(states, order)
    lows = [one for one in states if all((one, other) in below for other in states if other != one)]
    highs = [one for one in states if all((other, one) in below for other in states if other != one)]
    return lows, highs


class KeepTest(unittest.TestCase):
    def test_a_row_of_states(self):
        self.assertEqual(keep_order(STEPS, CHAIN), (True, True, False))
        self.assertEqual(keep_order(STEPS, (("c", "b"), ("b", "a"))), (True, True, False))
        self.assertEqual(keep_order(STEPS, (("a", "c"), ("c", "b"))), (False, False, False))

    def test_no_pairs_are_kept_by_all(self):
        self.assertEqual(keep_order(STEPS, ()), (True, True, True))
        self.assertEqual(keep_order(ONE, ()), (True,))

    def test_states_that_are_not_below_one_another(self):
        self.assertEqual(keep_order(DIAMOND, DIAMOND_ORDER), (True, True, True))
        lead_apart = (DIAMOND[0], (("x", 1, ("left", "left", "right", "right")),))
        self.assertEqual(keep_order(lead_apart, DIAMOND_ORDER), (False,))
        # Only these two are in order, and each move may do what it likes with the third.
        self.assertEqual(keep_order(STEPS, (("a", "b"),)), (True, False, False))
        self.assertEqual(keep_order(STEPS, (("a", "c"),)), (False, False, False))

    def test_pairs_more_than_once_or_that_follow_from_others(self):
        for order in (CHAIN * 2, CHAIN + (("a", "c"),), (("a", "c"),) + CHAIN + (("a", "b"),), CHAIN[::-1]):
            self.assertEqual(keep_order(STEPS, order), (True, True, False))

    def test_what_only_follows_counts_too(self):
        # b is led to a and c to itself, which are one below the other only through b.
        web = (("a", "b", "c"), (("x", 1, ("a", "a", "c")),))
        self.assertEqual(keep_order(web, CHAIN), (True,))

    def test_two_led_to_the_same_or_turned_round(self):
        web = (("a", "b"), (("fall", 1, ("a", "a")), ("stay", 1, ("a", "b")), ("turn", 1, ("b", "a"))))
        self.assertEqual(keep_order(web, (("a", "b"),)), (True, True, False))

    def test_a_state_below_itself(self):
        wrong = (
            (("a", "a"),),
            (("a", "b"), ("b", "a")),
            (("a", "b"), ("b", "c"), ("c", "a")),
            CHAIN + (("c", "c"),),
            CHAIN + (("c", "b"),),
            (("c", "b"), ("a", "b"), ("b", "c")),
        )
        for order in wrong:
            with self.subTest(order=order):
                with self.assertRaises(NoOrder) as caught:
                    keep_order(STEPS, order)
                self.assertIs(type(str(caught.exception)), str)
        self.assertRaises(NoOrder, keep_order, ONE, (("a", "a"),))

    def test_a_long_way_round(self):
        states = tuple("abcdefgh")
        web = (states, (("stay", 1, states), ("turn", 1, states[::-1])))
        up = tuple(zip(states, states[1:]))
        self.assertEqual(keep_order(web, up), (True, False))
        self.assertRaises(NoOrder, keep_order, web, up + (("h", "a"),))

    def test_as_looking_at_all_twos_tells(self):
        twos = list(itertools.product("abc", repeat=2))
        for many in range(5):
            for order in itertools.combinations(twos, many):
                due = keep_two_by_two(EIGHT_MOVES, order)
                if due is None:
                    self.assertRaises(NoOrder, keep_order, EIGHT_MOVES, order)
                    continue
                told = keep_order(EIGHT_MOVES, order)
                self.assertEqual(told, due)
                self.assertIs(type(told), tuple)
                self.assertEqual({type(truth) for truth in told}, {bool})


class TwoTest(unittest.TestCase):
    def test_an_ordinary_web(self):
        self.assertEqual(met_by_two(DOWN_UP, CHAIN, ("down", "down")), ("a", 2))
        self.assertEqual(met_by_two(DOWN_UP, CHAIN, ("down", "down", "up")), ("b", 3))
        self.assertEqual(met_by_two(DOWN_UP, CHAIN, ("down", "down", "up", "up")), ("c", 2))
        self.assertIsNone(met_by_two(DOWN_UP, CHAIN, ("down", "up", "down")))

    def test_a_past_of_no_moves(self):
        self.assertIsNone(met_by_two(DOWN_UP, CHAIN, ()))
        self.assertEqual(met_by_two(ONE, (), ()), ("a", 0))

    def test_one_state_alone(self):
        for many in (0, 1, 60):
            self.assertEqual(met_by_two(ONE, (), ("a",) * many), ("a", 0))

    def test_the_same_order_upside_down_or_told_otherwise(self):
        for order in ((("c", "b"), ("b", "a")), CHAIN * 3, CHAIN + (("a", "c"),)):
            for past in all_pasts(DOWN_UP, 5):
                self.assertEqual(met_by_two(DOWN_UP, order, past), met_by(DOWN_UP, past))

    def test_states_that_are_not_below_one_another(self):
        for past in all_pasts(DIAMOND, 6):
            self.assertEqual(met_by_two(DIAMOND, DIAMOND_ORDER, past), met_by(DIAMOND, past))

    def test_long_pasts(self):
        for past in (("swap",) * 60, ("fall", "fall") + ("swap",) * 58, ("rise", "swap") * 30, ("fall",) * 70):
            self.assertEqual(met_by_two(DIAMOND, DIAMOND_ORDER, past), met_by(DIAMOND, past))

    def test_no_least_or_no_greatest_state(self):
        still = (("a", "b", "c"), (("stay", 1, ("a", "b", "c")),))
        for order in ((), (("a", "b"),), (("a", "b"), ("a", "c")), (("a", "c"), ("b", "c"))):
            self.assertEqual(keep_order(still, order), (True,))
            self.assertRaises(NoOrder, met_by_two, still, order, ("stay",))
        two = (("a", "b"), (("fall", 1, ("a", "a")),))
        self.assertRaises(NoOrder, met_by_two, two, (), ("fall",))

    def test_a_state_below_itself(self):
        for order in (CHAIN + (("c", "a"),), CHAIN + (("b", "b"),)):
            self.assertRaises(NoOrder, met_by_two, DOWN_UP, order, ("down", "down"))
        self.assertRaises(NoOrder, met_by_two, ONE, (("a", "a"),), ())

    def test_a_move_that_does_not_keep_it(self):
        # Also one that is not in the past.
        for past in ((), ("down", "down"), ("turn",)):
            self.assertRaises(NoOrder, met_by_two, STEPS, CHAIN, past)

    def test_a_name_that_is_no_move(self):
        for past, word in ((("down", "left", "right"), "left"), (("z", "down", "down"), "z"), (("a",), "a")):
            with self.assertRaises(NoName) as caught:
                met_by_two(DOWN_UP, CHAIN, past)
            self.assertEqual(caught.exception.word, word)

    def test_of_two_refusals_the_one_told_first(self):
        refused = ((STEPS, CHAIN), (DOWN_UP, ()), (DOWN_UP, (("a", "a"),)), (DOWN_UP, CHAIN + (("c", "a"),)))
        for web, order in refused:
            self.assertRaises(NoOrder, met_by_two, web, order, ("up",))
            with self.assertRaises(NoName) as caught:
                met_by_two(web, order, ("up", "left"))
            self.assertEqual(caught.exception.word, "left")

    def test_as_looking_at_all_states_tells(self):
        twos = list(itertools.permutations("abc", 2))
        rows = list(itertools.product("abc", repeat=3))
        for order in itertools.chain.from_iterable(itertools.combinations(twos, many) for many in range(5)):
            for one, other in itertools.combinations(rows[::2], 2):
                web = (("a", "b", "c"), (("x", 1, one), ("y", 1, other)))
                kept = keep_two_by_two(web, order)
                if kept is None or not all(kept) or [] in ends_by_looking(web[0], order):
                    self.assertRaises(NoOrder, met_by_two, web, order, ("x",))
                    continue
                for past in all_pasts(web, 3):
                    self.assertEqual(met_by_two(web, order, past), met_by(web, past))

    def test_kinds_of_what_is_told(self):
        told = met_by_two(DOWN_UP, CHAIN, ("down", "down"))
        self.assertIs(type(told), tuple)
        self.assertEqual([type(part) for part in told], [str, int])


if __name__ == "__main__":
    unittest.main()
