"""Fractions as [2] tells them, and rows of whole numbers solved by them."""

import itertools
import random
import unittest
from fractions import Fraction

from tests.webs import as_numbers, as_pair, assert_fraction
from walksago.shares.fractions import least, solved


class LeastTest(unittest.TestCase):
    def test_in_least_numbers_the_below_at_least_1(self):
        for above, below in itertools.product(range(-12, 13), range(-12, 13)):
            if below == 0:
                continue
            told = least(above, below)
            assert_fraction(self, told)
            self.assertEqual(told, as_pair(Fraction(above, below)))

    def test_nought_and_one(self):
        self.assertEqual(least(0, 7), (0, 1))
        self.assertEqual(least(0, -7), (0, 1))
        self.assertEqual(least(7, 7), (1, 1))

    def test_great_numbers(self):
        self.assertEqual(least(6 * 10**300, 4 * 10**299), (15, 1))
        self.assertEqual(least(99**60, 100**60), (99**60, 100**60))


class SolvedTest(unittest.TestCase):
    def assert_solves(self, rows):
        told = as_numbers(solved(rows))
        self.assertEqual(len(told), len(rows))
        for row in rows:
            self.assertEqual(sum(much * share for much, share in zip(row, told)), row[-1])

    def test_no_rows(self):
        self.assertEqual(solved([]), [])

    def test_one_row(self):
        self.assertEqual(solved([[-4, 6]]), [(-3, 2)])

    def test_a_nought_where_it_would_be_divided_by(self):
        self.assertEqual(solved([[0, 2, 1], [3, 0, 1]]), [(1, 3), (1, 2)])
        self.assertEqual(solved([[1, 1, 1, 6], [2, 2, 1, 9], [0, 1, 1, 5]]), [(1, 1), (2, 1), (3, 1)])

    def test_rows_of_all_kinds(self):
        mixed = random.Random(7)
        for many in range(1, 9):
            for tried in range(20):
                # The great numbers stand where each row alone decides, so there is just one solution.
                rows = [[mixed.randint(-9, 9) for at in range(many + 1)] for row in range(many)]
                for at, row in enumerate(rows):
                    row[at] += 100 * mixed.choice((-1, 1))
                mixed.shuffle(rows)
                self.assert_solves(rows)

    def test_rows_handed_in_are_not_changed(self):
        rows = [[0, 2, 1], [3, 0, 1]]
        solved(rows)
        self.assertEqual(rows, [[0, 2, 1], [3, 0, 1]])


if __name__ == "__main__":
    unittest.main()
