"""Promises [18], [19] and [20]: what is drawn wrongly by lopping off, and how far it is apart; [3] of it."""

import itertools
import unittest
from fractions import Fraction

from tests.webs import (
    GREATEST, LONGEST, ONE, OUTSIDE, SLOW, SPLIT, STEPS, as_numbers, as_pair, assert_fraction,
    assert_fractions, met_past_by_past, mixed_webs, one_number, share_of, small_webs, walked,
)
from walksago.draws.backward import drawn_by
from walksago.errors import NoRest
from walksago.meets.ever import shortest_past
from walksago.shares.chains import closed_classes, resting
from walksago.wrong.lopped import ahead_apart, apart, back_apart, lopped_ahead, lopped_back

DOWN_UP = (STEPS[0], STEPS[1][:2])
TURNS = (("a", "b"), (("turn", 1, ("b", "a")),))
STAYS = (("a", "b"), (("stay", 1, ("a", "b")),))
# `c` is left at once, a and b meet in a alone: by moves from now on nothing is ever drawn but a.
FALLS = (("a", "b", "c"), (("x", 1, ("a", "a", "a")), ("y", 3, ("b", "c", "a"))))


def ahead_move_by_move(web, longest):
    """The shares of where all meet first within so many moves, and of what has not met by then."""
    met = {state: Fraction(0) for state in web[0]}
    left = [()]
    for many in range(longest + 1):
        ends = {past: set(walked(web, past)) for past in left}
        for past in left:
            if len(ends[past]) == 1:
                met[min(ends[past])] += share_of(web, past)
        left = [past for past in left if len(ends[past]) > 1]
        if many < longest:
            left = [past + (name,) for past in left for name, weight, images in web[1]]
    return list(met.values()), sum(share_of(web, past) for past in left)


def ahead_by_images(web):
    """The shares, by solving for each row of images to which moves from now on can lead all states."""
    states, moves = web
    whole = sum(weight for name, weight, images in moves)
    found = [states]
    leads = {}
    for led in found:
        leads[led] = [tuple(images[states.index(state)] for state in led) for name, weight, images in moves]
        found.extend(one for one in dict.fromkeys(leads[led]) if one not in found and len(set(led)) > 1)
    rows = []
    for at, led in enumerate(found):
        row = [Fraction(int(at == other)) for other in range(len(found))]
        ends = [Fraction(int(set(led) == {state})) for state in states]
        if len(set(led)) > 1:
            for (name, weight, images), after in zip(moves, leads[led]):
                row[found.index(after)] -= Fraction(weight, whole)
        rows.append(row + ends)
    return eliminated(rows)[0][len(found):]


def eliminated(rows):
    """The rows, each cleared of all but its own unknown."""
    for at in range(len(rows)):
        swap = next(other for other in range(at, len(rows)) if rows[other][at])
        rows[at], rows[swap] = rows[swap], rows[at]
        rows[at] = [part / rows[at][at] for part in rows[at]]
        for other in range(len(rows)):
            if other != at and rows[other][at]:
                rows[other] = [mine - rows[other][at] * part for mine, part in zip(rows[other], rows[at])]
    return rows


class AheadTest(unittest.TestCase):
    def test_one_state_alone(self):
        self.assertEqual(lopped_ahead(ONE), ((1, 1),))
        self.assertEqual(lopped_ahead((("b",), (("x", 4, ("b",)), ("a", 1, ("b",))))), ((1, 1),))

    def test_webs_that_can_be_reckoned_by_hand(self):
        self.assertEqual(lopped_ahead(SLOW), ((1, 1), (0, 1)))
        self.assertEqual(lopped_ahead(FALLS), ((1, 1), (0, 1), (0, 1)))
        # The first two moves that are alike let all meet, at the end to which they push.
        self.assertEqual(lopped_ahead(DOWN_UP), ((16, 21), (0, 1), (5, 21)))
        two = (("a", "b"), (("x", 3, ("a", "a")), ("y", 5, ("b", "b")), ("turn", 9, ("b", "a"))))
        self.assertEqual(lopped_ahead(two), ((3, 8), (5, 8)))
        self.assertEqual(lopped_ahead(STEPS), ((22, 27), (0, 1), (5, 27)))

    def test_where_all_never_meet(self):
        for web in (SPLIT, TURNS, STAYS, GREATEST, (("a", "b", "c"), (("x", 1, ("a", "a", "c")),))):
            self.assertIsNone(lopped_ahead(web))

    def test_just_where_all_ever_meet_it_is_told(self):
        for web in itertools.chain(small_webs(), mixed_webs(5, 5, 80)):
            told = lopped_ahead(web)
            self.assertEqual(told is None, shortest_past(web) is None)
            if told is not None:
                self.assertEqual(len(told), len(web[0]))
                assert_fractions(self, told)
                self.assertEqual(sum(as_numbers(told)), 1)

    def test_between_what_all_moves_so_far_allow(self):
        for web in itertools.islice(small_webs(), 0, None, 3):
            told = lopped_ahead(web)
            if told is not None:
                met, left = ahead_move_by_move(web, 6)
                for share, part in zip(as_numbers(told), met, strict=True):
                    self.assertLessEqual(part, share)
                    self.assertLessEqual(share, part + left)

    def test_as_going_through_all_rows_of_images_tells(self):
        for web in itertools.chain(itertools.islice(small_webs(), 0, None, 2), mixed_webs(4, 3, 24)):
            told = lopped_ahead(web)
            if told is not None:
                self.assertEqual(as_numbers(told), ahead_by_images(web))

    def test_five_states(self):
        # Very many moves from now on, so next to nothing is left that has not met.
        states = tuple("edcba")
        web = (states, (("x", 4, tuple("eedcb")), ("y", 3, tuple("dcbaa")), ("z", 2, tuple("dceba"))))
        left = {states: Fraction(1)}
        met = {state: Fraction(0) for state in states}
        for done in range(300):
            after = {}
            for led, share in left.items():
                for name, weight, images in web[1]:
                    ends = tuple(sorted({images[states.index(state)] for state in led}))
                    if len(ends) == 1:
                        met[ends[0]] += share * weight / 9
                    else:
                        after[ends] = after.get(ends, 0) + share * weight / 9
            left = after
        self.assertLess(sum(left.values()), Fraction(1, 1000))
        for share, part in zip(as_numbers(lopped_ahead(web)), met.values(), strict=True):
            self.assertLessEqual(part, share)
            self.assertLessEqual(share, part + sum(left.values()))
        self.assertGreater(len([part for part in met.values() if part > 0]), 1)

    def test_of_more_states_is_no_error(self):
        states = GREATEST[0][:6]
        web = (states, (("turn", 1, states[1:] + states[:1]), ("fall", 2, states[1:2] * 6)))
        self.assertEqual(lopped_ahead(web), ((0, 1), (1, 1), (0, 1), (0, 1), (0, 1), (0, 1)))


class BackTest(unittest.TestCase):
    def test_no_moves_back(self):
        self.assertIsNone(lopped_back(STEPS, 0))
        self.assertEqual(lopped_back(ONE, 0), ((1, 1),))

    def test_an_ordinary_web(self):
        self.assertEqual(lopped_back(STEPS, 2), ((4, 5), (0, 1), (1, 5)))
        self.assertEqual(lopped_back(SLOW, 2), ((100, 199), (99, 199)))

    def test_none_of_so_many_moves_meet(self):
        self.assertIsNone(lopped_back(STEPS, 1))
        self.assertIsNone(lopped_back(LONGEST, 48))
        self.assertEqual(lopped_back(LONGEST, 49), ((0, 1), (1, 1)) + ((0, 1),) * 6)

    def test_where_all_never_meet(self):
        for many in (0, 1, 7, 60):
            for web in (SPLIT, TURNS, STAYS, GREATEST):
                self.assertIsNone(lopped_back(web, many))

    def test_one_state_alone(self):
        for many in (1, 2, 60):
            self.assertEqual(lopped_back(ONE, many), ((1, 1),))

    def test_all_pasts_meet(self):
        web = (("a", "b"), (("x", 3, ("a", "a")), ("y", 5, ("b", "b"))))
        for many in (1, 2, 60):
            self.assertEqual(lopped_back(web, many), ((3, 8), (5, 8)))

    def test_as_going_through_all_pasts_tells(self):
        for web in itertools.chain(small_webs(), mixed_webs(5, 4), (OUTSIDE, STEPS, DOWN_UP)):
            for many in range(5):
                met = met_past_by_past(web, many)
                told = lopped_back(web, many)
                if sum(met) == 0:
                    self.assertIsNone(told)
                else:
                    assert_fractions(self, told)
                    self.assertEqual(told, tuple(as_pair(share / sum(met)) for share in met))

    def test_sixty_moves(self):
        for web in (STEPS, DOWN_UP, SLOW, FALLS):
            shares, left = drawn_by(web, 60)
            told = lopped_back(web, 60)
            assert_fractions(self, told)
            for mine, share in zip(as_numbers(told), as_numbers(shares), strict=True):
                self.assertEqual(mine * (1 - one_number(left)), share)


class ApartTest(unittest.TestCase):
    def test_ordinary_rows(self):
        self.assertEqual(apart(((1, 2), (1, 3), (1, 6)), ((1, 4), (1, 4), (1, 2))), (1, 3))
        self.assertEqual(apart(((1, 1), (0, 1)), ((0, 1), (1, 1))), (1, 1))
        self.assertEqual(apart(((2, 3), (1, 3)), ((3, 5), (2, 5))), (1, 15))

    def test_rows_that_are_alike(self):
        for row in (((1, 1),), ((1, 2), (1, 2)), ((1, 7), (2, 7), (0, 1), (4, 7)), ((0, 1), (1, 9))):
            self.assertEqual(apart(row, row), (0, 1))

    def test_rows_together_less_than_one(self):
        self.assertEqual(apart(((0, 1), (0, 1)), ((1, 2), (1, 2))), (1, 2))
        self.assertEqual(apart(((1, 3),), ((1, 1),)), (1, 3))
        self.assertEqual(apart(((1, 3), (1, 9)), ((1, 5), (0, 1))), (11, 90))
        self.assertEqual(apart(((0, 1),), ((0, 1),)), (0, 1))

    def test_fractions_of_twelve_figures(self):
        one = ((999999999989, 999999999999), (1, 999999999959), (10, 999999999999))
        other = ((999999999958, 999999999961), (0, 1), (3, 999999999961))
        due = sum(abs(mine - theirs) for mine, theirs in zip(as_numbers(one), as_numbers(other))) / 2
        self.assertEqual(apart(one, other), as_pair(due))

    def test_either_way_it_is_the_same(self):
        rows = [((0, 1), (1, 1)), ((1, 2), (1, 2)), ((1, 3), (2, 3)), ((1, 6), (0, 1)), ((0, 1), (0, 1))]
        for one, other in itertools.product(rows, repeat=2):
            told = apart(one, other)
            assert_fraction(self, told)
            self.assertEqual(told, apart(other, one))
            due = sum(abs(mine - theirs) for mine, theirs in zip(as_numbers(one), as_numbers(other))) / 2
            self.assertEqual(told, as_pair(due))

    def test_what_is_drawn_is_apart_from_rest_by_half_of_what_has_not_met(self):
        for many in (0, 2, 5, 60):
            shares, left = drawn_by(STEPS, many)
            self.assertEqual(apart(shares, resting(STEPS)), as_pair(one_number(left) / 2))


class FromRestTest(unittest.TestCase):
    def test_webs_that_can_be_reckoned_by_hand(self):
        self.assertEqual(resting(STEPS), ((5, 11), (4, 11), (2, 11)))
        self.assertEqual(ahead_apart(STEPS), (4, 11))
        self.assertEqual(back_apart(STEPS, 2), (4, 11))
        self.assertEqual(resting(SLOW), ((100, 199), (99, 199)))
        self.assertEqual(ahead_apart(SLOW), (99, 199))
        self.assertEqual(back_apart(SLOW, 1), (99, 199))
        self.assertEqual(back_apart(SLOW, 2), (0, 1))

    def test_one_state_alone(self):
        self.assertEqual(ahead_apart(ONE), (0, 1))
        for many in (0, 1, 60):
            self.assertEqual(back_apart(ONE, many), (0, 1))

    def test_none_where_nothing_is_drawn(self):
        self.assertIsNone(ahead_apart(TURNS))
        self.assertIsNone(ahead_apart(GREATEST))
        for many in (0, 1, 60):
            self.assertIsNone(back_apart(TURNS, many))
        self.assertIsNone(back_apart(STEPS, 0))
        self.assertIsNone(back_apart(STEPS, 1))

    def test_several_closed_classes_are_refused_ahead_of_none(self):
        for web in (SPLIT, STAYS):
            self.assertIsNone(lopped_ahead(web))
            self.assertRaises(NoRest, ahead_apart, web)
            for many in (0, 1, 60):
                self.assertIsNone(lopped_back(web, many))
                self.assertRaises(NoRest, back_apart, web, many)

    def test_as_the_differences_one_by_one_tell(self):
        for web in itertools.chain(small_webs(), mixed_webs(5, 5)):
            if len(closed_classes(web)) > 1:
                self.assertRaises(NoRest, ahead_apart, web)
                self.assertRaises(NoRest, back_apart, web, 3)
                continue
            rest = as_numbers(resting(web))
            pairs = [(lopped_ahead(web), ahead_apart(web))]
            pairs += [(lopped_back(web, many), back_apart(web, many)) for many in range(4)]
            for shares, told in pairs:
                if shares is None:
                    self.assertIsNone(told)
                    continue
                assert_fraction(self, told)
                due = sum(abs(share - other) for share, other in zip(as_numbers(shares), rest, strict=True)) / 2
                self.assertEqual(told, as_pair(due))

    def test_lopping_off_has_other_shares_wherever_they_are_other_ones(self):
        found = [0, 0]
        for web in itertools.chain(small_webs(), mixed_webs(5, 5)):
            if len(closed_classes(web)) == 1 and shortest_past(web) is not None:
                told = ahead_apart(web)
                self.assertEqual(told == (0, 1), lopped_ahead(web) == resting(web))
                found[told == (0, 1)] += 1
        self.assertTrue(all(found))


if __name__ == "__main__":
    unittest.main()
