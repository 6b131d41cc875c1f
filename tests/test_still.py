"""Section 7 with point 2 (b): count_still, nth_still, still_number."""

import inspect
import math
import random
import unittest

from countahead.errors import NoLine, NoNumber, NoSize, NotStill
from countahead.still import count_still, nth_still, still_number
from tests.faults import FaultCase
from tests.plain import NO_LINES, is_integer, plain_final
from tests.walks import LARGE_STILL, NO_NUMBERS, NO_SIZES, NOT_STILL, SIZES, STILL, plain_after

MANY = 1583850964596120042686772779038896


class ExamplesTest(unittest.TestCase):

    def test_count_still(self):
        self.assertEqual([count_still(size) for size in [1, 2, 3, 4, 60]], [1, 2, 5, 14, MANY])

    def test_nth_still_and_still_number(self):
        self.assertEqual([nth_still(4, 4), still_number((0, 0, 2, 3))], [(0, 0, 2, 3), 4])


class CountTest(unittest.TestCase):

    def test_against_all_still_rows(self):
        for size in SIZES:
            self.assertEqual(count_still(size), len(STILL[size]))

    def test_point_2_b(self):
        for size in range(1, 61):
            found = count_still(size)
            self.assertEqual(found * (size + 1), math.comb(2 * size, size))
            self.assertTrue(is_integer(found))

    def test_by_the_first_tree_and_the_rest(self):
        # A row is a first tree, which is a root over a smaller row, and the row of the rest.
        counts = [1]
        for size in range(1, 61):
            counts.append(sum(counts[first] * counts[size - 1 - first] for first in range(size)))
            self.assertEqual(count_still(size), counts[size])


class NumbersTest(unittest.TestCase):

    def test_against_all_still_rows(self):
        for size in SIZES:
            for number, row in enumerate(STILL[size]):
                found = nth_still(size, number)
                self.assertEqual(found, row, (size, number))
                self.assertIs(type(found), tuple)
                self.assertTrue(all(is_integer(mark) for mark in found))
                self.assertEqual(still_number(row), number, row)
                self.assertTrue(is_integer(still_number(row)))

    def test_first_and_last(self):
        for size in range(1, 61):
            last = count_still(size) - 1
            self.assertEqual(nth_still(size, 0), (0,) * size)
            self.assertEqual(nth_still(size, last), tuple(range(size)))
            self.assertEqual(still_number((0,) * size), 0)
            self.assertEqual(still_number(tuple(range(size))), last)

    def test_there_and_back(self):
        choose = random.Random(7)
        for size in range(1, 61):
            for _ in range(20):
                number = choose.randrange(count_still(size))
                row = nth_still(size, number)
                self.assertEqual(len(row), size)
                self.assertEqual(plain_final(row), row)
                self.assertEqual(still_number(row), number)
        for row in LARGE_STILL:
            self.assertEqual(nth_still(len(row), still_number(row)), row)

    def test_the_next_row_has_the_next_number(self):
        choose = random.Random(8)
        numbers = [0, 1, 2, 10 ** 32, MANY // 2, MANY - 3, MANY - 2]
        numbers.extend(choose.randrange(MANY - 1) for _ in range(10))
        for number in numbers:
            row = nth_still(60, number)
            self.assertEqual(nth_still(60, number + 1), plain_after(row), number)
            self.assertEqual(still_number(plain_after(row)), number + 1)
        self.assertIsNone(plain_after(nth_still(60, MANY - 1)))

    def test_greater_rows_have_greater_numbers(self):
        choose = random.Random(9)
        numbers = sorted(choose.randrange(MANY) for _ in range(100))
        rows = [nth_still(60, number) for number in numbers]
        self.assertEqual(rows, sorted(rows))
        self.assertEqual(len(set(rows)), 100)

    def test_one_person(self):
        self.assertEqual([count_still(1), nth_still(1, 0), still_number((0,))], [1, (0,), 0])


class FaultsTest(FaultCase):

    def test_no_size(self):
        for value in NO_SIZES:
            self.assert_raises(NoSize, count_still, value)
            self.assert_raises(NoSize, nth_still, value, 0)

    def test_no_number(self):
        for size in [1, 2, 3, 4, 30, 59, 60]:
            for value in NO_NUMBERS + [count_still(size), count_still(size) + 1]:
                self.assert_raises(NoNumber, nth_still, size, value)

    def test_no_line_and_not_still(self):
        for value in NO_LINES:
            self.assert_raises(NoLine, still_number, value)
        for line in NOT_STILL:
            self.assert_raises(NotStill, still_number, line)

    def test_the_size_is_checked_ahead_of_the_number(self):
        for size in NO_SIZES:
            for number in NO_NUMBERS:
                self.assert_raises(NoSize, nth_still, size, number)

    def test_the_arguments_are_called_as_listed(self):
        self.assertEqual(str(inspect.signature(count_still)), "(size)")
        self.assertEqual(str(inspect.signature(nth_still)), "(size, number)")
        self.assertEqual(str(inspect.signature(still_number)), "(row)")


if __name__ == "__main__":
    unittest.main()
