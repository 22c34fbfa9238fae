"""Promise [25]: kept draws."""

import itertools
import random
import unittest

from tests.webs import ONE, SPLIT, STEPS, mixed_webs, small_webs
from walksago.errors import NoName
from walksago.kept import KeptDraw
from walksago.moves.done import led_by, met_by


def told_by(kept):
    return kept.past_now(), kept.leads_now(), kept.met_now()


class KeptTest(unittest.TestCase):
    def test_a_past_of_no_moves(self):
        self.assertEqual(told_by(KeptDraw(STEPS)), ((), ("a", "b", "c"), None))
        self.assertEqual(told_by(KeptDraw(ONE)), ((), ("a",), ("a", 0)))

    def test_one_move_more_ahead_of_all(self):
        kept = KeptDraw(STEPS)
        self.assertIsNone(kept.put_back("turn"))
        self.assertIsNone(kept.put_back("down"))
        self.assertEqual(told_by(kept), (("down", "turn"), ("b", "b", "a"), None))
        kept.put_back("down")
        self.assertEqual(told_by(kept), (("down", "down", "turn"), ("b", "b", "b"), ("b", 3)))

    def test_one_move_more_now(self):
        kept = KeptDraw(STEPS)
        self.assertIsNone(kept.put_now("turn"))
        self.assertIsNone(kept.put_now("down"))
        self.assertEqual(told_by(kept), (("turn", "down"), ("a", "a", "b"), None))
        kept.put_now("down")
        self.assertEqual(told_by(kept), (("turn", "down", "down"), ("a", "a", "a"), ("a", 2)))
        kept.put_now("turn")
        self.assertEqual(kept.met_now(), ("b", 3))

    def test_by_going_back_the_pair_stays(self):
        kept = KeptDraw(STEPS)
        for name in ("down", "down", "turn"):
            kept.put_now(name)
        for name in ("up", "turn", "down", "up"):
            kept.put_back(name)
            self.assertEqual(kept.met_now(), ("b", 3))

    def test_sixty_moves(self):
        kept = KeptDraw(STEPS)
        for at in range(60):
            (kept.put_back if at % 3 else kept.put_now)(("down", "turn", "up", "turn")[at % 4])
        past = kept.past_now()
        self.assertEqual(len(past), 60)
        self.assertEqual(told_by(kept), (past, led_by(STEPS, past), met_by(STEPS, past)))

    def test_somewhat_more_is_no_error(self):
        kept = KeptDraw(STEPS)
        for done in range(70):
            kept.put_back("turn")
        self.assertEqual(kept.past_now(), ("turn",) * 70)

    def test_a_name_that_is_no_move_changes_nothing(self):
        kept = KeptDraw(STEPS)
        kept.put_now("down")
        before = told_by(kept)
        for put in (kept.put_back, kept.put_now):
            for word in ("a", "x", "", "downs", "Down"):
                with self.assertRaises(NoName) as caught:
                    put(word)
                self.assertEqual(caught.exception.word, word)
                self.assertEqual(told_by(kept), before)
        self.assertRaises(NoName, KeptDraw(ONE).put_back, "b")
        kept.put_now("down")
        self.assertEqual(kept.past_now(), ("down", "down"))

    def test_two_side_by_side_do_not_touch_one_another(self):
        one, other = KeptDraw(STEPS), KeptDraw(STEPS)
        one.put_back("down")
        self.assertEqual(other.past_now(), ())
        other.put_now("up")
        self.assertEqual((one.past_now(), other.past_now()), (("down",), ("up",)))

    def test_what_was_told_stays(self):
        kept = KeptDraw(STEPS)
        told = told_by(kept)
        kept.put_back("down")
        self.assertEqual(told, ((), ("a", "b", "c"), None))
        self.assertEqual(told_by(kept), told_by(kept))
        for part in told_by(kept)[:2]:
            self.assertIs(type(part), tuple)

    def test_asking_changes_nothing(self):
        kept = KeptDraw(SPLIT)
        kept.put_now("x")
        first = told_by(kept)
        for done in range(3):
            self.assertEqual(told_by(kept), first)

    def test_as_the_past_itself_tells(self):
        mixed = random.Random(25)
        for web in itertools.chain(small_webs(), mixed_webs(5, 4)):
            names = [name for name, weight, images in web[1]]
            kept = KeptDraw(web)
            past = ()
            for done in range(8):
                name = mixed.choice(names)
                if mixed.random() < 0.5:
                    kept.put_back(name)
                    past = (name,) + past
                else:
                    kept.put_now(name)
                    past = past + (name,)
                self.assertEqual(told_by(kept), (past, led_by(web, past), met_by(web, past)))


if __name__ == "__main__":
    unittest.main()
