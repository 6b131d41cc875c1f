"""Section 9: least_below, greatest_marks, count_marks."""

import fractions
import functools
import inspect
import itertools
import math
import random
import unittest

from countahead.errors import NoBound, NoLine, NotStill
from countahead.marks import count_marks, greatest_marks, least_below
from countahead.orders import count_orders
from tests.faults import FaultCase
from tests.plain import GREAT, NO_LINES, is_integer, plain_final
from tests.walks import LARGE_STILL, NOT_STILL, SIZES, SOME_STILL, STILL, bushy_still, grouped, plain_depth

NO_BOUNDS = [
    0, -1, -GREAT, GREAT + 1, 10 ** 99, -10 ** 99, True, False, None, "10", "", b"1", (), (10,), ((10,),), [10], [], {},
    {10: 10}, {10}, object(), int,
]

FEW_LINES = {
    size: {below: grouped(itertools.product(range(below), repeat=size)) for below in range(1, most + 1)}
    for size, most in [(1, 8), (2, 8), (3, 7), (4, 6), (5, 5)]
}


def plain_least(row):
    return 1 + max(plain_depth(row, person) for person in range(len(row)))


def plain_count(row, below):
    """By the place of the last least mark: nothing ahead of it is less, all behind it is greater."""

    @functools.cache
    def count(first, end, lowest):
        """The ways for the places from first to end - 1, with marks from lowest on."""
        if first == end:
            return 1
        last = max(place for place in range(first, end) if row[place] <= first)
        return sum(count(first, last, mark) * count(last + 1, end, mark + 1) for mark in range(lowest, below))

    return count(0, len(row), 0)


def through_points(values, at):
    """The value of the polynomial of the least degree with these values at 0, 1 and so on, after Lagrange."""
    total = fractions.Fraction(0)
    for place, value in enumerate(values):
        share = fractions.Fraction(value)
        for other in range(len(values)):
            if other != place:
                share *= fractions.Fraction(at - other, place - other)
        total += share
    assert total.denominator == 1
    return total.numerator


class ExamplesTest(unittest.TestCase):

    def test_least_below(self):
        self.assertEqual(least_below((0, 0, 2, 3)), 3)

    def test_greatest_marks(self):
        self.assertEqual(greatest_marks((0, 0, 2, 3), below=10), (9, 7, 8, 9))

    def test_count_marks(self):
        still = (0, 0, 2, 3)
        self.assertEqual([count_marks(still, below=below) for below in [2, 3, 4]], [0, 3, 15])


class FewPersonsTest(unittest.TestCase):
    """Against all lines with marks below a small bound, gathered by their final rows."""

    def test_least_below(self):
        for size, found in FEW_LINES.items():
            for row in STILL[size]:
                self.assertEqual(least_below(row), min(below for below in found if row in found[below]), row)

    def test_greatest_marks(self):
        for size, found in FEW_LINES.items():
            for below, lines_of in found.items():
                for row, lines in lines_of.items():
                    greatest = greatest_marks(row, below=below)
                    self.assertIn(greatest, lines)
                    for line in lines:
                        self.assertTrue(all(great >= mark for great, mark in zip(greatest, line)), (row, below, line))

    def test_count_marks(self):
        for size, found in FEW_LINES.items():
            for below, lines_of in found.items():
                for row in STILL[size]:
                    self.assertEqual(count_marks(row, below=below), len(lines_of.get(row, [])), (row, below))


class LeastBelowTest(unittest.TestCase):

    def test_by_the_depths(self):
        for row in SOME_STILL:
            found = least_below(row)
            self.assertEqual(found, plain_least(row), row)
            self.assertTrue(is_integer(found))

    def test_edges(self):
        self.assertEqual(least_below((0,)), 1)
        self.assertEqual(least_below((0,) * 60), 1)
        self.assertEqual(least_below(tuple(range(60))), 60)
        self.assertEqual(least_below((0,) + (1,) * 59), 2)


class GreatestMarksTest(FaultCase):

    def test_no_mark_can_be_raised(self):
        # If some line had a greater mark anywhere, then one mark of this line could be raised alone.
        for row in SOME_STILL:
            for below in [plain_least(row), plain_least(row) + 7, GREAT]:
                greatest = greatest_marks(row, below=below)
                self.assertIs(type(greatest), tuple)
                self.assertTrue(all(is_integer(mark) and 0 <= mark < below for mark in greatest))
                self.assertEqual(plain_final(greatest), row)
                for person, mark in enumerate(greatest):
                    raised = greatest[:person] + (mark + 1,) + greatest[person + 1:]
                    self.assertTrue(mark + 1 == below or plain_final(raised) != row, (row, below, person))

    def test_a_greater_bound_raises_all_marks_alike(self):
        for row in SOME_STILL:
            least = plain_least(row)
            first = greatest_marks(row, below=least)
            for more in [1, 2, 10 ** 20, GREAT - least]:
                wanted = tuple(mark + more for mark in first)
                self.assertEqual(greatest_marks(row, below=least + more), wanted)

    def test_edges(self):
        self.assertEqual(greatest_marks((0,), below=1), (0,))
        self.assertEqual(greatest_marks((0,), below=GREAT), (GREAT - 1,))
        self.assertEqual(greatest_marks((0,) * 60, below=1), (0,) * 60)
        self.assertEqual(greatest_marks((0,) * 60, below=GREAT), (GREAT - 1,) * 60)
        self.assertEqual(greatest_marks(tuple(range(60)), below=60), tuple(range(60)))
        self.assertEqual(greatest_marks(tuple(range(60)), below=GREAT), tuple(range(GREAT - 60, GREAT)))

    def test_at_the_least_bound_and_one_less(self):
        for row in SOME_STILL:
            least = plain_least(row)
            self.assertEqual(plain_final(greatest_marks(row, below=least)), row)
            self.assert_raises(NoBound, greatest_marks, row, below=least - 1)


class CountMarksTest(unittest.TestCase):

    def test_each_line_is_counted_for_one_row(self):
        for size in SIZES:
            for below in [1, 2, size, size + 1, 1000, 10 ** 9 + 7, GREAT - 1, GREAT]:
                total = sum(count_marks(row, below=below) for row in STILL[size])
                self.assertEqual(total, below ** size)

    def test_below_the_least_bound_there_is_none(self):
        for row in SOME_STILL:
            least = plain_least(row)
            for below in range(1, least):
                self.assertEqual(count_marks(row, below=below), 0)
            self.assertGreater(count_marks(row, below=least), 0)
            self.assertTrue(is_integer(count_marks(row, below=least)))

    def test_many_persons_and_small_bounds(self):
        for row in LARGE_STILL:
            least = plain_least(row)
            for below in [least, least + 1, least + 2]:
                self.assertEqual(count_marks(row, below=below), plain_count(row, below), (row, below))

    def test_around_the_number_of_persons(self):
        for row in [bushy_still(7), bushy_still(30), STILL[6][40], STILL[6][100]] + LARGE_STILL[8:12]:
            for below in range(max(1, len(row) - 2), len(row) + 4):
                self.assertEqual(count_marks(row, below=below), plain_count(row, below), (row, below))

    def test_many_persons_and_great_bounds(self):
        for row in [bushy_still(60), LARGE_STILL[-1], LARGE_STILL[-2], LARGE_STILL[-3], LARGE_STILL[9]]:
            values = [plain_count(row, below) for below in range(len(row) + 1)]
            for below in [GREAT, GREAT - 1, 12345678901234567890]:
                self.assertEqual(count_marks(row, below=below), through_points(values, below), (row, below))

    def test_known_shapes_of_all_sizes(self):
        for size in range(1, 61):
            for below in [1, 2, 3, size - 1, size, size + 1, 10 ** 15, GREAT - 1, GREAT]:
                if below > 0:
                    rising = count_marks(tuple(range(size)), below=below)
                    self.assertEqual(rising, math.comb(below, size))
                    falling = count_marks((0,) * size, below=below)
                    self.assertEqual(falling, math.comb(below + size - 1, size))
                if below > 0 and size > 1:
                    fan = count_marks((0,) + (1,) * (size - 1), below=below)
                    self.assertEqual(fan, math.comb(below + size - 2, size))

    def test_nearly_all_of_the_lines_with_great_bounds_have_different_marks(self):
        for row in LARGE_STILL:
            size = len(row)
            share = fractions.Fraction(count_marks(row, below=GREAT), math.comb(GREAT, size) * count_orders(row))
            self.assertLess(abs(share - 1), fractions.Fraction(1, 10 ** 20))

    def test_edges(self):
        self.assertEqual(count_marks((0,), below=1), 1)
        self.assertEqual(count_marks((0,), below=GREAT), GREAT)
        self.assertEqual(count_marks((0,) * 60, below=1), 1)
        self.assertEqual(count_marks(tuple(range(60)), below=59), 0)
        self.assertEqual(count_marks(tuple(range(60)), below=60), 1)
        self.assertGreater(count_marks(bushy_still(60), below=GREAT), 10 ** 1700)

    def test_the_counting_of_the_tests_themselves(self):
        for size, found in FEW_LINES.items():
            for below, lines_of in found.items():
                for row in STILL[size]:
                    self.assertEqual(plain_count(row, below), len(lines_of.get(row, [])))


class FaultsTest(FaultCase):

    def test_no_line_and_not_still(self):
        for kind, values in [(NoLine, NO_LINES), (NotStill, NOT_STILL)]:
            for value in values:
                self.assert_raises(kind, least_below, value)
                for below in [1, 60, GREAT]:
                    self.assert_raises(kind, greatest_marks, value, below=below)
                    self.assert_raises(kind, count_marks, value, below=below)

    def test_no_bound(self):
        for row in [(0,), (0, 1), (0, 0, 2, 3), (0,) * 60, tuple(range(60)), bushy_still(60)]:
            for value in NO_BOUNDS:
                self.assert_raises(NoBound, greatest_marks, row, below=value)
                self.assert_raises(NoBound, count_marks, row, below=value)
            greatest_marks(row, below=GREAT)
            count_marks(row, below=1)
            count_marks(row, below=GREAT)

    def test_the_row_is_checked_ahead_of_the_bound(self):
        for kind, values in [(NoLine, NO_LINES), (NotStill, NOT_STILL)]:
            for value in values:
                for below in NO_BOUNDS:
                    self.assert_raises(kind, greatest_marks, value, below=below)
                    self.assert_raises(kind, count_marks, value, below=below)

    def test_the_arguments_are_called_as_listed(self):
        self.assertEqual(str(inspect.signature(least_below)), "(row)")
        self.assertEqual(str(inspect.signature(greatest_marks)), "(row, *, below)")
        self.assertEqual(str(inspect.signature(count_marks)), "(row, *, below)")

    def test_the_bound_is_passed_by_its_name_only(self):
        for function in [greatest_marks, count_marks]:
            self.assertRaises(TypeError, function, (0,), 5)
            self.assertRaises(TypeError, function, (0,))

    def test_an_error_has_no_effect_on_a_later_call(self):
        still = (0, 0, 2, 3)
        self.assert_raises(NoBound, greatest_marks, still, below=2)
        self.assert_raises(NoBound, count_marks, still, below=0)
        self.assertEqual(greatest_marks(still, below=3), (2, 0, 1, 2))
        self.assertEqual(count_marks(still, below=3), 3)

    def test_random_lines_below_a_bound_are_not_above_the_greatest(self):
        choose = random.Random(21)
        for size in [7, 30, 60]:
            for below in [size, 1000, GREAT]:
                for _ in range(10):
                    line = tuple(choose.randrange(below) for _ in range(size))
                    greatest = greatest_marks(plain_final(line), below=below)
                    self.assertTrue(all(mark <= great for mark, great in zip(line, greatest)))


if __name__ == "__main__":
    unittest.main()
