"""Promise [26]: two webs side by side."""

import itertools
import unittest

from tests.webs import ONE, SLOW, STEPS, all_pasts, as_numbers, mixed_webs, one_number
from walksago.draws.backward import drawn_by
from walksago.errors import NoRest, NoWeb
from walksago.meets.ever import shortest_past
from walksago.moves.done import led_by, met_by
from walksago.moves.texts import read_web, web_shown
from walksago.shares.chains import resting
from walksago.watched.two import beside

DOWN_UP = (STEPS[0], STEPS[1][:2])
TURN = (("a", "b"), (("turn", 1, ("b", "a")),))
NAMES = "abcdefgh"


def staying(states, moves, weight=1):
    """A web of so many states and moves that lead nowhere else."""
    names = tuple(NAMES[:states])
    return names, tuple((name, weight, names) for name in NAMES[:moves])


class BesideTest(unittest.TestCase):
    def refused(self, one, other):
        with self.assertRaises(NoWeb) as caught:
            beside(one, other)
        self.assertEqual(caught.exception.row, 0)

    def test_ordinary_webs(self):
        # States: aa, ab, ba, bb, ca, cb; moves: down fall, down turn, up fall, up turn.
        self.assertEqual(beside(DOWN_UP, (("a", "b"), (("fall", 4, ("a", "a")), ("turn", 5, ("b", "a"))))), (
            ("a", "b", "c", "d", "e", "f"),
            (
                ("a", 8, ("a", "a", "a", "a", "c", "c")),
                ("b", 10, ("b", "a", "b", "a", "d", "c")),
                ("c", 4, ("c", "c", "e", "e", "e", "e")),
                ("d", 5, ("d", "c", "f", "e", "f", "e")),
            ),
        ))

    def test_the_first_web_counts_first(self):
        other = (("x", "y", "z"), (("m", 3, ("y", "z", "x")),))
        self.assertEqual(beside(TURN, other), (tuple("abcdef"), (("a", 3, tuple("efdbca")),)))
        self.assertEqual(beside(other, TURN), (tuple("abcdef"), (("a", 3, tuple("dcfeba")),)))

    def test_one_state_alone(self):
        self.assertEqual(beside(ONE, ONE), ONE)
        named = (("a", "b", "c"), (("a", 2, ("a", "a", "b")), ("b", 1, ("b", "c", "c")), ("c", 3, ("b", "a", "c"))))
        self.assertEqual(beside(STEPS, ONE), named)
        self.assertEqual(beside(ONE, STEPS), named)

    def test_weights_are_multiplied_and_no_more(self):
        web = beside((("a",), (("x", 2, ("a",)), ("y", 4, ("a",)))), (("a",), (("x", 6, ("a",)), ("y", 8, ("a",)))))
        self.assertEqual([weight for name, weight, images in web[1]], [12, 16, 24, 32])

    def test_just_eight_states_and_more(self):
        self.assertEqual(beside(staying(4, 1), staying(2, 1)), staying(8, 1))
        self.assertEqual(beside(staying(8, 1), staying(1, 1)), staying(8, 1))
        self.refused(staying(3, 1), staying(3, 1))
        self.refused(staying(5, 1), staying(2, 1))
        self.refused(staying(8, 1), staying(8, 1))

    def test_just_eight_moves_and_more(self):
        self.assertEqual(beside(staying(2, 2), staying(2, 4)), staying(4, 8))
        self.assertEqual(beside(staying(1, 8), staying(1, 1)), staying(1, 8))
        self.refused(staying(1, 3), staying(1, 3))
        self.refused(staying(1, 8), staying(1, 2))
        self.refused(staying(8, 8), staying(8, 8))

    def test_weights_of_just_99_and_of_more(self):
        self.assertEqual(beside(staying(2, 1, 9), staying(2, 1, 11)), staying(4, 1, 99))
        self.assertEqual(beside(staying(2, 1, 99), staying(2, 1, 1)), staying(4, 1, 99))
        self.refused(staying(2, 1, 10), staying(2, 1, 10))
        self.refused(staying(2, 1, 99), staying(2, 1, 2))
        self.refused((("a",), (("x", 1, ("a",)), ("y", 50, ("a",)))), (("a",), (("x", 2, ("a",)),)))

    def test_all_meet_just_where_both_do(self):
        found = 0
        for one, other in itertools.product(mixed_small(), repeat=2):
            web = beside(one, other)
            both = [(mine, theirs) for mine in names_of(one) for theirs in names_of(other)]
            pairs = [(mine, theirs) for mine in one[0] for theirs in other[0]]
            for past in all_pasts(web, 3):
                mine = tuple(both[NAMES.index(name)][0] for name in past)
                theirs = tuple(both[NAMES.index(name)][1] for name in past)
                first = dict(zip(one[0], led_by(one, mine)))
                second = dict(zip(other[0], led_by(other, theirs)))
                ends = tuple(NAMES[pairs.index((first[left], second[right]))] for left, right in pairs)
                self.assertEqual(led_by(web, past), ends)
                met = met_by(web, past)
                here, there = met_by(one, mine), met_by(other, theirs)
                self.assertEqual(met is None, here is None or there is None)
                if met is not None:
                    found += 1
                    self.assertEqual(met, (NAMES[pairs.index((here[0], there[0]))], max(here[1], there[1])))
        self.assertGreater(found, 100)

    def test_shares_are_multiplied(self):
        one = (("a", "b"), (("x", 1, ("a", "a")), ("y", 2, ("b", "a"))))
        other = (("a", "b", "c"), (("x", 4, ("a", "a", "b")), ("y", 5, ("b", "c", "c"))))
        web = beside(one, other)
        mine, theirs = as_numbers(resting(one)), as_numbers(resting(other))
        self.assertEqual(as_numbers(resting(web)), [left * right for left, right in itertools.product(mine, theirs)])
        for many in (0, 1, 2, 5):
            met = [1 - one_number(drawn_by(each, many)[1]) for each in (one, other, web)]
            self.assertEqual(met[0] * met[1], met[2])

    def test_where_one_never_meets(self):
        web = beside((("a", "b"), (("fall", 1, ("a", "a")),)), TURN)
        self.assertIsNone(shortest_past(web))
        self.assertRaises(NoRest, resting, beside(TURN, TURN))
        self.assertRaises(NoWeb, beside, SLOW, (("a",), (("x", 2, ("a",)),)))

    def test_what_is_told_may_be_handed_on(self):
        web = beside(TURN, DOWN_UP)
        self.assertEqual(read_web(web_shown(web)), web)
        self.refused(beside(TURN, TURN), STEPS)
        for part in (web[0], web[1], *web[1], *[images for name, weight, images in web[1]]):
            self.assertIs(type(part), tuple)
        self.assertEqual({type(weight) for name, weight, images in web[1]}, {int})


def names_of(web):
    return [name for name, weight, images in web[1]]


def mixed_small():
    """Small webs, two of which side by side are not too great."""
    for states, moves in mixed_webs(3, 2, 12):
        if len(states) < 3:
            yield states, tuple((name, 1 + weight % 9, images) for name, weight, images in moves)


if __name__ == "__main__":
    unittest.main()
