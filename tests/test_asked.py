"""Promise [2] of all that is asked: nothing handed in is changed, the same is answered the same, kinds of values."""

import copy
import unittest

from tests.webs import ONE, OUTSIDE, SPLIT, STEPS
from walksago.draws.backward import drawn_by, far_enough
from walksago.errors import LongError
from walksago.meets.ever import never_meeting, never_shown, shortest_past
from walksago.meets.howlong import back_on_average, walk_on_average
from walksago.meets.orders import keep_order, met_by_two
from walksago.meets.rows import orders_kept
from walksago.moves.done import led_by, met_by
from walksago.moves.texts import read_web, web_shown
from walksago.shares.chains import closed_classes, resting, rests, table_of
from walksago.watched.few import fewest, is_enough
from walksago.watched.tables import web_of
from walksago.watched.two import beside
from walksago.wrong.lopped import ahead_apart, apart, back_apart, lopped_ahead, lopped_back
from walksago.wrong.once import block_meets, once_shares, read_once


def read_again(web):
    return read_web(web_shown(web))


def cut_again(web, *wrong):
    return web_of(web[0], (*table_of(web), *wrong))


def apart_so_far(web, many, other):
    return apart(drawn_by(web, many)[0], drawn_by(web, other)[0])


DOWN_UP = (STEPS[0], STEPS[1][:2])
WEBS = (ONE, STEPS, DOWN_UP, OUTSIDE, SPLIT)
ASKED = (
    (read_again,),
    (web_shown,),
    (led_by, ("a", "a")),
    (led_by, ("up", "down", "down")),
    (met_by, ("up", "down", "down")),
    (met_by, ()),
    (table_of,),
    (closed_classes,),
    (resting,),
    (rests, ((5, 11), (4, 11), (2, 11))),
    (drawn_by, 9),
    (far_enough, (2, 3)),
    (shortest_past,),
    (never_meeting,),
    (never_shown, (("a", "b"), ("b", "a"))),
    (back_on_average,),
    (walk_on_average, "a"),
    (walk_on_average, "d"),
    (keep_order, ()),
    (keep_order, (("a", "a"),)),
    (met_by_two, (("a", "b"), ("b", "c")), ("down", "up", "up")),
    (met_by_two, (), ("a", "a")),
    (orders_kept,),
    (lopped_ahead,),
    (lopped_back, 3),
    (ahead_apart,),
    (back_apart, 3),
    (read_once, ("a",) * 5, 2),
    (read_once, ("down", "down", "up", "up", "turn", "turn", "down", "down"), 2),
    (block_meets, 3),
    (once_shares, 3),
    (is_enough, ("a",)),
    (is_enough, ("c", "a")),
    (fewest,),
    (cut_again,),
    (cut_again, ((1, 2), (1, 2))),
    (beside, (("a", "b"), (("x", 3, ("b", "b")), ("y", 2, ("b", "a"))))),
    (beside, STEPS),
    (apart_so_far, 2, 7),
)
TRUTHS = (rests, never_shown, keep_order, is_enough)


def answered(ask, web, handed):
    """What is told, or what it is refused with."""
    try:
        return ask(web, *handed)
    except LongError as refused:
        return type(refused), vars(refused)


def parts_in(told):
    """What is told, and all that stands in it."""
    yield told
    if isinstance(told, tuple):
        for part in told:
            yield from parts_in(part)


class AskedTest(unittest.TestCase):
    def test_asked_again_between_others(self):
        first = [answered(ask, web, handed) for web in WEBS for ask, *handed in ASKED]
        again = [answered(ask, web, handed) for web in WEBS[::-1] for ask, *handed in ASKED[::-1]]
        self.assertEqual(again[::-1], first)

    def test_nothing_handed_in_is_changed(self):
        for web in WEBS:
            for ask, *handed in ASKED:
                before = copy.deepcopy((web, handed))
                answered(ask, web, handed)
                self.assertEqual((web, handed), before)

    def test_an_equal_web_is_answered_the_same(self):
        for states, moves in WEBS:
            other = (tuple(list(states)), tuple((name, weight, tuple(list(images))) for name, weight, images in moves))
            for ask, *handed in ASKED:
                self.assertEqual(answered(ask, other, handed), answered(ask, (states, moves), handed))

    def test_whole_numbers_are_no_truths_and_rows_are_tuples(self):
        for web in WEBS:
            for ask, *handed in ASKED:
                try:
                    told = ask(web, *handed)
                except LongError:
                    continue
                kinds = {type(part) for part in parts_in(told)} - {type(None), tuple}
                self.assertLessEqual(kinds, {bool} if ask in TRUTHS else {int, str})


if __name__ == "__main__":
    unittest.main()
