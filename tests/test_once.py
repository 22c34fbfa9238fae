"""Promises [21] and [22]: moves read once, in blocks, and the shares of what is drawn so."""

import itertools
import unittest
from fractions import Fraction

from tests.webs import (
    GREATEST, LONGEST, ONE, OUTSIDE, SLOW, SPLIT, STEPS, as_numbers, as_pair, assert_fraction, assert_fractions,
    met_past_by_past, mixed_webs, one_number, share_of, small_webs, walked,
)
from walksago.errors import NoName, NoRest
from walksago.shares.chains import resting
from walksago.wrong.once import block_meets, once_shares, read_once

TURNS = (("a", "b"), (("turn", 1, ("b", "a")), ("stay", 2, ("a", "b"))))
# `fall` and `rise` let all meet, `turn` and `stay` do not.
FOUR = (
    ("a", "b"),
    (("fall", 1, ("a", "a")), ("rise", 1, ("b", "b")), ("turn", 1, ("b", "a")), ("stay", 1, ("a", "b"))),
)


def read_move_by_move(web, row, block):
    """The drawn states, by what the moves between two blocks that meet do to where the first of them let all meet."""
    parts = [row[at:at + block] for at in range(0, len(row) - block + 1, block)]
    meet = [at for at, part in enumerate(parts) if len(set(walked(web, part))) == 1]
    drawn = []
    for one, other in zip(meet, meet[1:]):
        drawn.append(walked(web, tuple(itertools.chain(*parts[one:other])))[0])
    return tuple(drawn)


def drawn_block_by_block(web, block, most):
    """The shares of what is drawn behind at most so many blocks that do not meet, and what is left then."""
    names = [name for name, weight, images in web[1]]
    blocks = [(walked(web, past), share_of(web, past)) for past in itertools.product(names, repeat=block)]
    meets = sum(share for ends, share in blocks if len(set(ends)) == 1)
    held = [share / meets for share in met_past_by_past(web, block)]
    drawn = [Fraction(0)] * len(web[0])
    for done in range(most + 1):
        drawn = [part + share * meets for part, share in zip(drawn, held)]
        after = [Fraction(0)] * len(web[0])
        for ends, share in blocks:
            if len(set(ends)) > 1:
                for at, end in enumerate(ends):
                    after[web[0].index(end)] += held[at] * share
        held = after
    return drawn, sum(held)


class ReadTest(unittest.TestCase):
    def test_blocks_of_one_move(self):
        self.assertEqual(read_once(FOUR, ("fall", "rise", "fall"), 1), ("a", "b"))
        self.assertEqual(read_once(FOUR, ("fall", "fall"), 1), ("a",))

    def test_the_first_block_that_meets_draws_nothing(self):
        self.assertEqual(read_once(FOUR, (), 1), ())
        self.assertEqual(read_once(FOUR, ("fall",), 1), ())
        self.assertEqual(read_once(FOUR, ("turn", "stay", "rise", "turn"), 1), ())

    def test_no_block_that_meets(self):
        self.assertEqual(read_once(FOUR, ("turn", "stay", "turn"), 1), ())
        self.assertEqual(read_once(TURNS, ("turn",) * 60, 3), ())

    def test_blocks_that_do_not_meet_lead_the_held_state_on(self):
        self.assertEqual(read_once(FOUR, ("fall", "turn", "fall"), 1), ("b",))
        self.assertEqual(read_once(FOUR, ("fall", "turn", "turn", "fall"), 1), ("a",))
        self.assertEqual(read_once(FOUR, ("fall", "stay", "turn", "stay", "rise", "turn", "fall"), 1), ("b", "a"))

    def test_blocks_ahead_of_the_first_that_meets_do_nothing(self):
        self.assertEqual(read_once(FOUR, ("turn", "stay", "turn", "rise", "turn", "rise"), 1), ("a",))

    def test_the_drawn_state_stands_ahead_of_the_block(self):
        # The further block itself does not lead on what is drawn.
        self.assertEqual(read_once(FOUR, ("fall", "stay", "turn", "rise"), 2), ("a",))
        self.assertEqual(read_once(FOUR, ("fall", "turn", "turn", "rise"), 2), ("b",))

    def test_a_block_that_is_not_full_is_left(self):
        self.assertEqual(read_once(FOUR, ("fall", "turn", "rise", "stay", "fall"), 2), ("b",))
        self.assertEqual(read_once(FOUR, ("fall", "turn", "rise"), 2), ())
        self.assertEqual(read_once(FOUR, ("fall", "turn", "rise", "stay", "fall", "stay"), 2), ("b", "b"))

    def test_a_block_longer_than_the_row(self):
        self.assertEqual(read_once(FOUR, ("fall", "rise", "fall"), 4), ())
        self.assertEqual(read_once(FOUR, ("fall",) * 11, 12), ())
        self.assertEqual(read_once(FOUR, ("fall",) * 24, 12), ("a",))

    def test_blocks_meet_by_their_own_moves_alone(self):
        self.assertEqual(read_once(STEPS, ("down", "down") * 2, 2), ("a",))
        self.assertEqual(read_once(STEPS, ("turn", "down", "down", "turn") * 3, 2), ())
        self.assertEqual(read_once(STEPS, ("turn", "down", "down", "turn") * 3, 4), ("b", "b"))

    def test_one_state_alone_meets_by_each_block(self):
        self.assertEqual(read_once(ONE, ("a",) * 5, 1), ("a",) * 4)
        self.assertEqual(read_once(ONE, ("a",) * 5, 2), ("a",))
        self.assertEqual(read_once(ONE, ("a",) * 5, 5), ())
        self.assertEqual(read_once(ONE, (), 1), ())

    def test_names_that_are_no_moves(self):
        for row, block, word in (
            (("fall", "b", "x"), 1, "b"),
            (("x",), 1, "x"),
            (("fall", "rise", "y"), 2, "y"),
            (("fall", "", "rise"), 5, ""),
            (("fall", "rise", "fall", "z", "w"), 3, "z"),
        ):
            with self.assertRaises(NoName) as caught:
                read_once(FOUR, row, block)
            self.assertEqual(caught.exception.word, word)
        self.assertRaises(NoName, read_once, ONE, ("a", "b"), 2)

    def test_as_the_moves_between_tell(self):
        webs = itertools.chain(mixed_webs(4, 4), (FOUR, STEPS, OUTSIDE))
        for at, web in enumerate(webs):
            names = [name for name, weight, images in web[1]]
            row = tuple(names[(at + step * step * 7 + step // 3) % len(names)] for step in range(60))
            for block in range(1, 13):
                told = read_once(web, row, block)
                self.assertIs(type(told), tuple)
                self.assertEqual(told, read_move_by_move(web, row, block))

    def test_every_short_row(self):
        for row in itertools.chain(*[itertools.product(("fall", "rise", "turn"), repeat=many) for many in range(7)]):
            for block in (1, 2, 3):
                self.assertEqual(read_once(FOUR, row, block), read_move_by_move(FOUR, row, block))

    def test_somewhat_more_is_no_error(self):
        self.assertEqual(read_once(FOUR, ("fall",) * 75, 15), ("a",) * 4)


class MeetsTest(unittest.TestCase):
    def test_webs_that_can_be_reckoned_by_hand(self):
        self.assertEqual(block_meets(FOUR, 1), (1, 2))
        self.assertEqual(block_meets(FOUR, 2), (3, 4))
        self.assertEqual(block_meets(FOUR, 12), (4095, 4096))
        self.assertEqual(block_meets(STEPS, 1), (0, 1))
        self.assertEqual(block_meets(STEPS, 2), (5, 36))
        self.assertEqual(block_meets(SLOW, 1), (1, 100))

    def test_one_state_alone(self):
        for block in (1, 2, 12):
            self.assertEqual(block_meets(ONE, block), (1, 1))

    def test_where_all_never_meet(self):
        for block in (1, 4, 12):
            self.assertEqual(block_meets(TURNS, block), (0, 1))
            self.assertEqual(block_meets(SPLIT, block), (0, 1))

    def test_as_going_through_all_blocks_tells(self):
        for web in itertools.chain(small_webs(), mixed_webs(5, 4)):
            for block in (1, 2, 3, 4):
                told = block_meets(web, block)
                assert_fraction(self, told)
                self.assertEqual(told, as_pair(sum(met_past_by_past(web, block))))

    def test_somewhat_more_is_no_error(self):
        self.assertEqual(block_meets(GREATEST, 12), (0, 1))
        self.assertEqual(block_meets(LONGEST, 49), (1, 2**49))


class SharesTest(unittest.TestCase):
    def test_webs_that_can_be_reckoned_by_hand(self):
        web = (("a", "b"), (("fall", 1, ("a", "a")), ("turn", 2, ("b", "a"))))
        self.assertEqual(once_shares(web, 1), ((3, 5), (2, 5)))
        self.assertEqual(once_shares(FOUR, 1), ((1, 2), (1, 2)))
        self.assertEqual(once_shares(STEPS, 3), ((5, 11), (4, 11), (2, 11)))

    def test_one_state_alone(self):
        for block in (1, 2, 12):
            self.assertEqual(once_shares(ONE, block), ((1, 1),))

    def test_none_where_no_block_meets(self):
        self.assertIsNone(once_shares(STEPS, 1))
        self.assertIsNotNone(once_shares(STEPS, 2))
        for block in (1, 4, 12):
            self.assertIsNone(once_shares(TURNS, block))
            self.assertIsNone(once_shares(SPLIT, block))

    def test_each_block_meets(self):
        web = (("a", "b"), (("fall", 2, ("a", "a")), ("rise", 3, ("b", "b"))))
        for block in (1, 2, 12):
            self.assertEqual(once_shares(web, block), ((2, 5), (3, 5)))

    def test_they_are_the_resting_shares_wherever_a_block_meets(self):
        for web in itertools.chain(small_webs(), mixed_webs(3, 8)):
            for block in (1, 2, 3, 7, 12):
                self.told_is_at_rest(web, block)

    def test_of_four_and_five_states(self):
        for web in mixed_webs(5, 8):
            for block in (1, 2, 3, 4):
                self.told_is_at_rest(web, block)

    def told_is_at_rest(self, web, block):
        told = once_shares(web, block)
        self.assertEqual(told is None, block_meets(web, block) == (0, 1))
        if told is not None:
            assert_fractions(self, told)
            self.assertEqual(told, resting(web))
        else:
            try:
                self.assertEqual(sum(as_numbers(resting(web))), 1)
            except NoRest:
                pass

    def test_as_going_through_all_blocks_tells(self):
        for web in itertools.chain(itertools.islice(small_webs(), 0, None, 4), mixed_webs(5, 3, 20)):
            for block in (1, 2, 3):
                told = once_shares(web, block)
                if told is None:
                    self.assertEqual(sum(met_past_by_past(web, block)), 0)
                    continue
                drawn, left = drawn_block_by_block(web, block, 12)
                for share, part in zip(as_numbers(told), drawn, strict=True):
                    self.assertLessEqual(part, share)
                    self.assertLessEqual(share, part + left)
                self.assertEqual(left, (1 - one_number(block_meets(web, block))) ** 13)

    def test_somewhat_more_is_no_error(self):
        self.assertIsNone(once_shares(GREATEST, 12))
        self.assertEqual(once_shares(LONGEST, 50), resting(LONGEST))
        self.assertEqual(once_shares(STEPS, 20), resting(STEPS))


if __name__ == "__main__":
    unittest.main()
