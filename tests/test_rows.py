"""Promise [17]: how many rows of the states are orders that all moves keep, and the first of them."""

import itertools
import unittest

from tests.webs import EIGHT_NAMES, GREATEST, ONE, STEPS, mixed_webs, small_webs
from walksago.meets.orders import keep_order
from walksago.meets.rows import orders_kept


def kept_row_by_row(web):
    """All rows, each two of whose states are looked at."""
    states, moves = web
    kept = []
    for row in itertools.permutations(states):
        twos = list(itertools.combinations(row, 2))
        led = [
            (row.index(images[states.index(lower)]), row.index(images[states.index(upper)]))
            for name, weight, images in moves
            for lower, upper in twos
        ]
        if all(low <= high for low, high in led):
            kept.append(row)
    return len(kept), kept[0] if kept else None


class RowsTest(unittest.TestCase):
    def test_one_state_alone(self):
        self.assertEqual(orders_kept(ONE), (1, ("a",)))

    def test_an_ordinary_web(self):
        self.assertEqual(orders_kept((STEPS[0], STEPS[1][:2])), (2, ("a", "b", "c")))

    def test_no_row_that_is_kept(self):
        self.assertEqual(orders_kept(STEPS), (0, None))
        self.assertEqual(orders_kept((("a", "b"), (("turn", 1, ("b", "a")),))), (0, None))

    def test_the_first_by_places_not_by_names(self):
        down, up = {"a": "a", "b": "a", "c": "b"}, {"a": "b", "b": "c", "c": "c"}
        first = {"bac": "abc", "cba": "cba", "bca": "cba", "acb": "abc", "cab": "cba"}
        for states, row in first.items():
            moves = tuple((name, 1, tuple(led[state] for state in states)) for name, led in (("x", down), ("y", up)))
            self.assertEqual(orders_kept((tuple(states), moves)), (2, tuple(row)))

    def test_moves_that_keep_all_rows(self):
        states = tuple("fbadce")
        self.assertEqual(orders_kept((states, (("stay", 1, states),))), (720, states))
        fall = (states, (("stay", 1, states), ("x", 1, ("a",) * 6), ("y", 1, ("e",) * 6)))
        self.assertEqual(orders_kept(fall), (720, states))

    def test_one_move_that_keeps_some(self):
        # Kept where c does not stand between the two that meet.
        web = (("a", "b", "c"), (("x", 1, ("a", "a", "c")),))
        self.assertEqual(orders_kept(web), (4, ("a", "b", "c")))

    def test_as_looking_row_by_row_tells(self):
        for web in itertools.chain(small_webs(), mixed_webs(5, 3), mixed_webs(5, 1)):
            self.assertEqual(orders_kept(web), kept_row_by_row(web))

    def test_six_states(self):
        states = tuple("abcdef")
        down = ("a",) + states[:5]
        for moves in ((("x", 1, down),), (("x", 1, down), ("y", 1, states[1:] + ("f",)))):
            self.assertEqual(orders_kept((states, moves)), kept_row_by_row((states, moves)))

    def test_a_row_is_kept_just_where_its_pairs_are(self):
        for web in itertools.islice(small_webs(), 11, None, 7):
            rows = list(itertools.permutations(web[0]))
            kept = [row for row in rows if all(keep_order(web, tuple(zip(row, row[1:]))))]
            self.assertEqual(orders_kept(web), (len(kept), kept[0] if kept else None))

    def test_of_more_states_is_no_error(self):
        self.assertEqual(orders_kept((EIGHT_NAMES[:7], (("stay", 1, EIGHT_NAMES[:7]),))), (5040, EIGHT_NAMES[:7]))
        self.assertEqual(orders_kept(GREATEST), (0, None))

    def test_kinds_of_what_is_told(self):
        told = orders_kept((STEPS[0], STEPS[1][:2]))
        self.assertIs(type(told), tuple)
        self.assertEqual([type(part) for part in told], [int, tuple])
        self.assertEqual({type(state) for state in told[1]}, {str})


if __name__ == "__main__":
    unittest.main()
