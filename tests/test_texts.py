"""Promise [4]: webs read from texts and written as texts; [2] as far as it speaks of them."""

import unittest

from tests.webs import EIGHT_NAMES, GREATEST, ONE, STEPS, STEPS_TEXT, small_webs
from walksago.errors import NoWeb
from walksago.moves.texts import read_web, web_shown

# One wrong row each, by the row that is kept. The first row is right where another row is kept.
WRONG_STATES = (
    ("no word", ""),
    ("one blank alone", " "),
    ("a blank ahead", " a b"),
    ("a blank behind", "a b "),
    ("two blanks", "a  b"),
    ("a state twice", "a b a"),
    ("a great letter", "a B"),
    ("a figure", "a b2"),
    ("another sign", "a b-c"),
    ("a semicolon", "a b;"),
    ("nine letters", "a bbbbbbbbb"),
    ("a letter beyond z", "a {"),
    ("a sign ahead of a", "a `"),
)
WRONG_MOVES = (
    ("no word", ""),
    ("one blank alone", " "),
    ("name alone", "up"),
    ("no image", "up 1"),
    ("one image too few", "up 1 b"),
    ("one image too many", "up 1 b b b"),
    ("an image that is no state", "up 1 b c"),
    ("an image that is a move", "up 1 b down"),
    ("an image in great letters", "up 1 b B"),
    ("no name", "1 b b"),
    ("an empty name", " 1 b b"),
    ("a great letter in the name", "Up 1 b b"),
    ("a figure in the name", "up2 1 b b"),
    ("nine letters in the name", "uuuuuuuuu 1 b b"),
    ("another sign in the name", "u_p 1 b b"),
    ("no weight", "up b b"),
    ("an empty weight", "up  b b"),
    ("a weight of nought", "up 0 b b"),
    ("a weight of two noughts", "up 00 b b"),
    ("a nought ahead", "up 01 b b"),
    ("a plus ahead", "up +1 b b"),
    ("a minus ahead", "up -1 b b"),
    ("a weight with a line below", "up 1_0 b b"),
    ("a weight with a point", "up 1.0 b b"),
    ("a weight in letters", "up one b b"),
    ("a blank ahead", " up 1 b b"),
    ("a blank behind", "up 1 b b "),
    ("two blanks", "up 1 b  b"),
    ("the name of an earlier move", "down 1 b b"),
    ("the very same move", "down 1 a a"),
    ("the states again", "a b"),
)


class ReadTest(unittest.TestCase):
    def assert_refused(self, text, row):
        with self.assertRaises(NoWeb) as caught:
            read_web(text)
        self.assertEqual(caught.exception.row, row)
        self.assertIs(type(caught.exception.row), int)

    def test_an_ordinary_text(self):
        self.assertEqual(read_web(STEPS_TEXT), STEPS)

    def test_one_state_and_one_move_of_the_same_name(self):
        self.assertEqual(read_web("a\na 1 a"), ONE)

    def test_a_state_may_have_the_name_of_a_move(self):
        web = (("up", "b"), (("b", 1, ("b", "up")), ("up", 7, ("up", "up"))))
        self.assertEqual(read_web("up b\nb 1 b up\nup 7 up up"), web)

    def test_states_and_moves_stay_in_the_order_given(self):
        states, moves = read_web("z a m\nb 1 a z z\na 1 m m m")
        self.assertEqual(states, ("z", "a", "m"))
        self.assertEqual([move[0] for move in moves], ["b", "a"])

    def test_moves_may_differ_by_their_names_alone(self):
        self.assertEqual(read_web("a\nx 1 a\ny 1 a"), (("a",), (("x", 1, ("a",)), ("y", 1, ("a",)))))

    def test_names_of_one_and_of_eight_letters(self):
        self.assertEqual(read_web("abcdwxyz\nz 1 abcdwxyz"), (("abcdwxyz",), (("z", 1, ("abcdwxyz",)),)))
        self.assertEqual(read_web("z\nabcdwxyz 1 z"), (("z",), (("abcdwxyz", 1, ("z",)),)))

    def test_weights(self):
        for weight in (1, 9, 10, 90, 99):
            self.assertEqual(read_web(f"a\nup {weight} a"), (("a",), (("up", weight, ("a",)),)))

    def test_as_much_as_may_be_handed_in(self):
        text = web_shown(GREATEST)
        self.assertLessEqual(len(text), 900)
        self.assertEqual(read_web(text), GREATEST)

    def test_somewhat_more_is_no_error(self):
        states = tuple("abcdefghi")
        web = (states, tuple((name, 100, states) for name in states))
        self.assertEqual(read_web(web_shown(web)), web)

    def test_kinds_of_what_is_told(self):
        web = read_web(STEPS_TEXT)
        states, moves = web
        self.assertEqual([type(part) for part in (web, states, moves)], [tuple] * 3)
        self.assertEqual({type(state) for state in states}, {str})
        for move in moves:
            self.assertIs(type(move), tuple)
            self.assertEqual([type(part) for part in move], [str, int, tuple])
            self.assertEqual({type(image) for image in move[2]}, {str})

    def test_asked_again(self):
        self.assertEqual(read_web(STEPS_TEXT), read_web(STEPS_TEXT))
        for asked in range(2):
            self.assert_refused("a\nup 0 a", 1)

    def test_wrong_rows_of_states(self):
        for why, row in WRONG_STATES:
            with self.subTest(why):
                self.assert_refused(row, 0)
                self.assert_refused(row + "\nup 1 a b", 0)
                self.assert_refused(row + "\nup 0", 0)

    def test_wrong_rows_of_moves(self):
        for why, row in WRONG_MOVES:
            with self.subTest(why):
                self.assert_refused("a b\ndown 1 a a\n" + row, 2)
                self.assert_refused("a b\ndown 1 a a\n" + row + "\nturn 1 b a", 2)

    def test_the_first_wrong_row_is_kept(self):
        self.assert_refused("a b\nup 0 b b\nup 0 b b", 1)
        self.assert_refused("a b\nup 1 b b\ndown 1 a\nup 1 b b", 2)
        self.assert_refused("a b\nup 1 b b\nup 1 b b\ndown 1 a", 2)
        self.assert_refused("a a\nup 0 b b", 0)

    def test_each_row_can_be_the_wrong_one(self):
        rows = web_shown(GREATEST).split("\n")
        for at in range(len(rows)):
            broken = rows[:at] + [rows[at] + " "] + rows[at + 1:]
            self.assert_refused("\n".join(broken), at)

    def test_without_a_row_for_a_move(self):
        self.assert_refused("a", 1)
        self.assert_refused("a b c", 1)
        self.assert_refused("", 0)
        self.assert_refused("a a", 0)

    def test_line_ends_too_many(self):
        self.assert_refused("a\n", 1)
        self.assert_refused("\n", 0)
        self.assert_refused("\na\nup 1 a", 0)
        self.assert_refused("a\n\nup 1 a", 1)
        self.assert_refused("a\nup 1 a\n", 2)
        self.assert_refused("a\nup 1 a\n\n", 2)

    def test_rows_are_parted_by_line_ends_alone(self):
        self.assert_refused("a;up 1 a", 0)
        self.assert_refused("a up 1 a", 0)


class ShownTest(unittest.TestCase):
    def test_an_ordinary_web(self):
        self.assertEqual(web_shown(STEPS), STEPS_TEXT)

    def test_one_state_alone(self):
        self.assertEqual(web_shown(ONE), "a\na 1 a")

    def test_the_greatest_web(self):
        rows = web_shown(GREATEST).split("\n")
        self.assertEqual(len(rows), 9)
        self.assertEqual(rows[0], " ".join(EIGHT_NAMES))
        self.assertEqual(rows[1], "aaaaaaaa 99 " + " ".join(EIGHT_NAMES))

    def test_what_is_shown_is_read_again(self):
        for web in small_webs():
            text = web_shown(web)
            self.assertIs(type(text), str)
            self.assertEqual(read_web(text), web)
            self.assertEqual(web_shown(read_web(text)), text)


if __name__ == "__main__":
    unittest.main()
