"""Promise [2] of all that is asked: nothing handed in is changed, and the same is answered the same."""

import copy
import unittest

from tests.webs import GREATEST, ONE, OUTSIDE, SPLIT, STEPS
from walksago.draws.backward import drawn_by, far_enough
from walksago.errors import LongError
from walksago.meets.ever import never_meeting, never_shown, shortest_past
from walksago.shares.chains import closed_classes, resting, rests, table_of

WEBS = (ONE, STEPS, OUTSIDE, SPLIT, GREATEST)
ASKED = (
    (table_of,),
    (closed_classes,),
    (resting,),
    (rests, ((5, 11), (4, 11), (2, 11))),
    (drawn_by, 9),
    (far_enough, (2, 3)),
    (shortest_past,),
    (never_meeting,),
    (never_shown, (("a", "b"), ("b", "a"))),
)


def answered(ask, web, handed):
    """What is told, or what it is refused with."""
    try:
        return ask(web, *handed)
    except LongError as refused:
        return type(refused), vars(refused)


class AskedTest(unittest.TestCase):
    def test_asked_again_between_others(self):
        first = [answered(ask, web, handed) for web in WEBS for ask, *handed in ASKED]
        again = [answered(ask, web, handed) for web in WEBS[::-1] for ask, *handed in ASKED[::-1]]
        self.assertEqual(again[::-1], first)

    def test_nothing_handed_in_is_changed(self):
        for web in WEBS:
            for ask, *handed in ASKED:
                before = copy.deepcopy((web, handed))
                answered(ask, web, handed)
                self.assertEqual((web, handed), before)

    def test_an_equal_web_is_answered_the_same(self):
        for states, moves in WEBS:
            other = (tuple(list(states)), tuple((name, weight, tuple(list(images))) for name, weight, images in moves))
            for ask, *handed in ASKED:
                self.assertEqual(answered(ask, other, handed), answered(ask, (states, moves), handed))


if __name__ == "__main__":
    unittest.main()
