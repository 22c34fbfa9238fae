"""Promise [27]: the desk."""

import itertools
import unittest

from tests.webs import GREATEST, LONGEST, ONE, OUTSIDE, SLOW, SPLIT, STEPS, STEPS_TEXT, mixed_webs, small_webs
from walksago.draws.backward import drawn_by
from walksago.errors import NoAsk, NoName, NoRest, NoWeb
from walksago.meets.ever import shortest_past
from walksago.meets.howlong import back_on_average
from walksago.moves.done import led_by, met_by
from walksago.moves.texts import web_shown
from walksago.shares.chains import closed_classes, resting, table_of
from walksago.watched.few import fewest
from walksago.whole import Desk
from walksago.wrong.lopped import lopped_ahead

WORDS = ("show", "past", "leads", "met", "table", "rest", "shortest", "average", "lopped", "enough")
SIX = "web a b c d e f;x 1 a a a a a a"
FIVE = "web a b c d e;x 1 a a a a a"


def line_of(web):
    return "web " + web_shown(web).replace("\n", ";")


def desk_with(line, *further):
    desk = Desk()
    for one in (line, *further):
        desk.ask(one)
    return desk


def written(share):
    return str(share[0]) if share[1] == 1 else f"{share[0]}/{share[1]}"


def all_told(desk):
    """All that a desk tells; what it refuses, by the refusal."""
    told = []
    for line in (*WORDS, "drawn 0", "drawn 3"):
        try:
            told.append(desk.ask(line))
        except (NoAsk, NoRest) as refused:
            told.append(type(refused))
    return told


class DeskTest(unittest.TestCase):
    def refused(self, refusal, line, desk=None):
        """That a line is refused, and nothing changes."""
        desk = desk or desk_with(line_of(STEPS), "back down", "now up")
        before = all_told(desk)
        with self.assertRaises(refusal) as caught:
            desk.ask(line)
        self.assertEqual(all_told(desk), before)
        return caught.exception

    def test_the_desk_at_first(self):
        desk = Desk()
        told = {
            "show": ["a", "a 1 a"], "past": [], "leads": ["a"], "met": ["a 0"], "table": ["1"], "rest": ["1"],
            "drawn 0": ["1", "0"], "drawn 60": ["1", "0"], "shortest": [""], "average": ["0"], "lopped": ["1"],
            "enough": [""],
        }
        for line, rows in told.items():
            self.assertEqual(desk.ask(line), rows)
        self.assertEqual(desk.ask("now a"), [])
        self.assertEqual(desk.ask("past"), ["a"])
        self.assertEqual(desk.ask("met"), ["a 0"])
        self.refused(NoName, "back b", desk)

    def test_an_ordinary_web(self):
        desk = Desk()
        self.assertEqual(desk.ask("web a b c;down 2 a a b;up 1 b c c;turn 3 b a c"), [])
        told = {
            "show": ["a b c", "down 2 a a b", "up 1 b c c", "turn 3 b a c"],
            "past": [],
            "leads": ["a b c"],
            "met": ["none"],
            "table": ["1/3 2/3 0", "5/6 0 1/6", "0 1/3 2/3"],
            "rest": ["5/11 4/11 2/11"],
            "drawn 0": ["0 0 0", "1"],
            "drawn 2": ["1/9 0 1/36", "31/36"],
            "shortest": ["down down"],
            "average": ["55/9"],
            "lopped": ["22/27 0 5/27"],
            "enough": ["a b c"],
        }
        for line, rows in told.items():
            self.assertEqual(desk.ask(line), rows)

    def test_back_and_now(self):
        desk = desk_with(line_of(STEPS))
        self.assertEqual(desk.ask("back turn"), [])
        self.assertEqual(desk.ask("back down"), [])
        self.assertEqual(desk.ask("now up"), [])
        self.assertEqual(desk.ask("past"), ["down turn up"])
        self.assertEqual(desk.ask("leads"), ["c c b"])
        self.assertEqual(desk.ask("met"), ["none"])
        desk.ask("back down")
        self.assertEqual(desk.ask("leads"), ["c c c"])
        self.assertEqual(desk.ask("met"), ["c 4"])
        desk.ask("back up")
        self.assertEqual(desk.ask("met"), ["c 4"])

    def test_a_new_web_begins_the_kept_draw_anew(self):
        desk = desk_with(line_of(STEPS), "back down", "now down")
        self.assertEqual(desk.ask("met"), ["a 2"])
        self.assertEqual(desk.ask(line_of(STEPS)), [])
        self.assertEqual(desk.ask("past"), [])
        self.assertEqual(desk.ask("met"), ["none"])
        desk.ask("web x;y 1 x")
        self.assertEqual(desk.ask("show"), ["x", "y 1 x"])
        self.refused(NoName, "back down", desk)

    def test_rows_that_may_be_empty(self):
        one = desk_with("web x;y 1 x;z 2 x")
        self.assertEqual(one.ask("shortest"), [""])
        self.assertEqual(one.ask("enough"), [""])
        self.assertEqual(one.ask("past"), [])

    def test_where_all_never_meet(self):
        desk = desk_with("web a b;turn 3 b a")
        told = {
            "met": ["none"], "rest": ["1/2 1/2"], "drawn 60": ["0 0", "1"], "shortest": ["never"],
            "average": ["never"], "lopped": ["never"], "enough": ["a b"],
        }
        for line, rows in told.items():
            self.assertEqual(desk.ask(line), rows)

    def test_no_resting_shares(self):
        desk = desk_with(line_of(SPLIT))
        self.refused(NoRest, "rest", desk)
        self.assertEqual(desk.ask("lopped"), ["never"])

    def test_wrong_texts_of_webs(self):
        for text, row in (
            ("", 0), ("a", 1), (" a;a 1 a", 0), ("a ;a 1 a", 0), ("a a;a 1 a a", 0), ("A;a 1 A", 0), ("a;", 1),
            ("a;a 1", 1), ("a;a 01 a", 1), ("a;a 0 a", 1), ("a;a 1 b", 1), ("a;a 1 a;", 2), ("a;a 1 a;a 2 a", 2),
            ("a;a 1 a;b  1 a", 2), ("a; a 1 a", 1), ("a;;a 1 a", 1), (";a;a 1 a", 0), ("abcdefghi;a 1 a", 0),
            ("a;a 1 a;b 1 a;c 1 a;d x a", 4),
        ):
            refusal = self.refused(NoWeb, "web " + text)
            self.assertEqual(refusal.row, row, text)

    def test_a_line_end_is_a_wrong_sign(self):
        for text, row in (
            ("a\na 1 a", 0), ("a;a 1 a\n", 1), ("\na;a 1 a", 0), ("a;a 1\na", 1), ("a;a 1 a\nb 1 a", 1),
            ("a;\na 1 a", 1), ("a;a 1 a;b 1 a\n", 2), ("\n", 0),
        ):
            self.assertEqual(self.refused(NoWeb, "web " + text).row, row, text)
        for line in ("web\na;a 1 a", "show\n", "\nshow", "back down\n", "drawn 1\n", "\n", "past\nshow"):
            self.refused(NoAsk, line)

    def test_other_lines(self):
        for line in (
            "", " ", "web", "Web a;a 1 a", "webs a;a 1 a", "weba;a 1 a", "back", "now", "drawn", "back ",
            "now ", "drawn ", "tables", "Show", "show show", "none", "never", "a", "down", "show;", "met 1",
            "rest rest", "past down", "enough a", "shares", "show past",
        ):
            self.refused(NoAsk, line)

    def test_blanks_ahead_behind_or_twice(self):
        for word in (*WORDS, "back down", "now down", "drawn 5"):
            self.refused(NoAsk, " " + word)
            self.refused(NoAsk, word + " ")
        for line in ("back  down", "now  down", "drawn  5", "back down up", "drawn 5 5", " web a;a 1 a"):
            self.refused(NoAsk, line)
        self.assertEqual(self.refused(NoWeb, "web  a;a 1 a").row, 0)
        self.assertEqual(self.refused(NoWeb, "web a;a 1 a ").row, 1)

    def test_names_that_are_none(self):
        for word in ("Down", "down1", "abcdefghi", "1", "-", "do-wn", "DOWN", "a;b", "."):
            self.refused(NoAsk, "back " + word)
            self.refused(NoAsk, "now " + word)

    def test_names_that_are_no_moves(self):
        for word in ("a", "x", "downs", "abcdefgh"):
            self.assertEqual(self.refused(NoName, "back " + word).word, word)
            self.assertEqual(self.refused(NoName, "now " + word).word, word)

    def test_numbers_of_moves(self):
        desk = desk_with(line_of(STEPS))
        for many in (0, 1, 2, 9, 10, 59, 60):
            shares, left = drawn_by(STEPS, many)
            self.assertEqual(desk.ask(f"drawn {many}"), [" ".join(map(written, shares)), written(left)])
        for word in (
            "61", "99", "100", "600", "07", "00", "060", "-1", "-0", "+1", "1.0", "x", "5x", "6_0", "1/2", "0x1",
            "9" * 800,
        ):
            self.refused(NoAsk, "drawn " + word)

    def test_more_than_five_states(self):
        six = desk_with(SIX, "now x")
        for word in ("average", "lopped"):
            self.refused(NoAsk, word, six)
        self.assertEqual(six.ask("shortest"), ["x"])
        self.assertEqual(six.ask("enough"), ["a b"])
        five = desk_with(FIVE)
        self.assertEqual(five.ask("average"), ["1"])
        self.assertEqual(five.ask("lopped"), ["1 0 0 0 0"])
        # Also where it would be told at once that all never meet.
        self.refused(NoAsk, "average", desk_with(line_of(GREATEST)))
        self.refused(NoAsk, "lopped", desk_with(line_of(GREATEST)))

    def test_a_61st_move(self):
        for first, other in (("back", "now"), ("now", "back")):
            desk = desk_with(line_of(STEPS))
            for done in range(59):
                desk.ask(first + " turn")
            desk.ask(other + " down")
            self.assertEqual(len(desk.ask("past")[0].split(" ")), 60)
            for line in ("back turn", "now turn", "back x", "now x", "back X", "now"):
                self.refused(NoAsk, line, desk)
            desk.ask(line_of(STEPS))
            self.assertEqual(desk.ask("past"), [])
            self.assertEqual(desk.ask("now turn"), [])

    def test_the_59th_and_60th_move_are_taken_or_refused_by_their_names(self):
        desk = desk_with(line_of(STEPS))
        for done in range(59):
            desk.ask("now turn")
        self.assertEqual(self.refused(NoName, "now x", desk).word, "x")
        self.assertEqual(desk.ask("back turn"), [])
        self.refused(NoAsk, "now x", desk)

    def test_a_list_that_is_changed_changes_nothing(self):
        desk = desk_with(line_of(STEPS), "back down")
        before = all_told(desk)
        for line in (*WORDS, "drawn 2", "back down", line_of(STEPS)):
            desk.ask(line).append("x")
        desk.ask("back down")
        for line in WORDS:
            rows = desk.ask(line)
            rows.clear()
        self.assertEqual(all_told(desk), before)
        self.assertEqual(Desk().ask("show"), ["a", "a 1 a"])

    def test_two_desks_do_not_touch_one_another(self):
        one, other = Desk(), Desk()
        one.ask(line_of(STEPS))
        self.assertEqual(other.ask("show"), ["a", "a 1 a"])
        other.ask(line_of(STEPS))
        one.ask("back down")
        self.assertEqual(other.ask("past"), [])
        other.ask("now up")
        self.assertEqual((one.ask("past"), other.ask("past")), (["down"], ["up"]))

    def test_asked_again_it_tells_the_same(self):
        desk = desk_with(line_of(STEPS), "back down", "now turn")
        self.assertEqual(all_told(desk), all_told(desk))

    def test_as_the_parts_tell(self):
        for web in itertools.chain(small_webs(), mixed_webs(5, 5), (ONE, STEPS, OUTSIDE, SLOW)):
            desk = desk_with(line_of(web))
            names = [name for name, weight, images in web[1]]
            past = (names[-1], names[0], names[0])
            for name in past:
                desk.ask("now " + name)
            shares, left = drawn_by(web, 4)
            met, shortest = met_by(web, past), shortest_past(web)
            average, lopped = back_on_average(web), lopped_ahead(web)
            told = {
                "show": web_shown(web).split("\n"),
                "past": [" ".join(past)],
                "leads": [" ".join(led_by(web, past))],
                "met": ["none" if met is None else f"{met[0]} {met[1]}"],
                "table": [" ".join(map(written, row)) for row in table_of(web)],
                "drawn 4": [" ".join(map(written, shares)), written(left)],
                "shortest": ["never" if shortest is None else " ".join(shortest)],
                "average": ["never" if average is None else written(average)],
                "lopped": ["never" if lopped is None else " ".join(map(written, lopped))],
                "enough": [" ".join(fewest(web))],
            }
            if len(closed_classes(web)) == 1:
                told["rest"] = [" ".join(map(written, resting(web)))]
            else:
                self.assertRaises(NoRest, desk.ask, "rest")
            for line, rows in told.items():
                rows_told = desk.ask(line)
                self.assertIs(type(rows_told), list)
                self.assertEqual(rows_told, rows)

    def test_the_greatest_webs(self):
        for web in (GREATEST, LONGEST):
            desk = desk_with(line_of(web))
            self.assertEqual(desk.ask("show"), web_shown(web).split("\n"))
            self.assertEqual(len(desk.ask("table")), 8)
            self.assertEqual(desk.ask("enough"), [" ".join(fewest(web))])
        self.assertEqual(desk.ask("shortest"), [" ".join(shortest_past(LONGEST))])

    def test_the_text_of_a_web_is_read_with_its_rows_parted_otherwise(self):
        desk = Desk()
        desk.ask("web " + STEPS_TEXT.replace("\n", ";"))
        self.assertEqual("\n".join(desk.ask("show")), STEPS_TEXT)


if __name__ == "__main__":
    unittest.main()
