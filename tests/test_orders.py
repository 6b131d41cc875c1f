"""Section 8 with points 2 (c) and 8: is_order, order_of, count_orders, nth_order, order_number."""

import inspect
import itertools
import math
import random
import unittest

from countahead.errors import NoCode, NoLine, NoNumber, NoOrder, NotStill
from countahead.orders import count_orders, is_order, nth_order, order_number, order_of
from tests.faults import FaultCase
from tests.plain import NO_LINES, is_integer, plain_final, plain_round
from tests.walks import CODES, LARGE_STILL, NO_CODES, NO_NUMBERS, NO_ORDERS, NOT_STILL, ORDERS, ORDERS_OF, SIZES
from tests.walks import SMALL_ORDERS, SOME_STILL, STILL
from tests.walks import bushy_still, greedy_order, grouped, must_wait, plain_count_orders, sequence_of


class ExamplesTest(unittest.TestCase):

    def test_is_order(self):
        self.assertEqual([is_order((1, 2, 0)), is_order((1, 2, 3))], [True, False])

    def test_order_of(self):
        self.assertEqual(order_of((0, 0, 1, 2)), (3, 0, 1, 2))

    def test_count_orders(self):
        self.assertEqual(count_orders((0, 0, 2, 3)), 3)

    def test_nth_order_and_order_number(self):
        still = (0, 0, 2, 3)
        found = [nth_order(still, number) for number in range(3)]
        self.assertEqual(found, [(1, 0, 2, 3), (2, 0, 1, 3), (3, 0, 1, 2)])
        self.assertEqual(order_number((3, 0, 1, 2)), 2)


class IsOrderTest(unittest.TestCase):

    def test_orders(self):
        for order in SMALL_ORDERS:
            self.assertIs(is_order(order), True)
        self.assertIs(is_order(tuple(range(60))), True)
        self.assertIs(is_order(tuple(range(59, -1, -1))), True)

    def test_among_all_lines_of_few_marks(self):
        for size in range(1, 5):
            for line in itertools.product(range(-1, size + 1), repeat=size):
                self.assertIs(is_order(line), line in ORDERS[size], line)

    def test_what_is_no_order(self):
        for value in NO_LINES + NO_ORDERS:
            self.assertIs(is_order(value), False, value)

    def test_wrong_kinds(self):
        for value in [[0], [1, 2, 0], (False,), (False, True), (0, True), (1, False), (0, 2, True), ("0",), (None, 0)]:
            self.assertIs(is_order(value), False, value)
        self.assertIs(is_order(tuple(range(61))), False)
        self.assertIs(is_order(()), False)


class OrderOfTest(unittest.TestCase):

    def test_point_2_c_each_code_of_few_persons_once(self):
        for size in SIZES:
            orders = [order_of(code) for code in CODES[size]]
            self.assertEqual(len(CODES[size]), math.factorial(size))
            self.assertEqual(sorted(orders), ORDERS[size])
            for code, order in zip(CODES[size], orders):
                self.assertEqual(plain_round(order), code)

    def test_orders_of_many_persons(self):
        choose = random.Random(10)
        for size in [7, 20, 59, 60]:
            for _ in range(20):
                order = list(range(size))
                choose.shuffle(order)
                self.assertEqual(order_of(plain_round(tuple(order))), tuple(order))
                code = tuple(choose.randint(0, place) for place in range(size))
                found = order_of(code)
                self.assertEqual(sorted(found), list(range(size)))
                self.assertEqual(plain_round(found), code)

    def test_edges(self):
        self.assertEqual(order_of((0,)), (0,))
        self.assertEqual(order_of((0,) * 60), tuple(range(59, -1, -1)))
        self.assertEqual(order_of(tuple(range(60))), tuple(range(60)))

    def test_kind(self):
        found = order_of((0, 0, 1, 2))
        self.assertIs(type(found), tuple)
        self.assertTrue(all(is_integer(mark) for mark in found))


class CountOrdersTest(unittest.TestCase):

    def test_against_all_orders_and_all_codes(self):
        for size in SIZES:
            codes_of = grouped(CODES[size])
            for row in STILL[size]:
                found = count_orders(row)
                self.assertEqual(found, len(ORDERS_OF[size][row]), row)
                self.assertEqual(found, len(codes_of[row]), row)
                self.assertTrue(is_integer(found))

    def test_by_the_stretches(self):
        for row in SOME_STILL:
            self.assertEqual(count_orders(row), plain_count_orders(row), row)

    def test_edges(self):
        for row in [(0,), (0,) * 60, tuple(range(60)), (0,) + (1,) * 59]:
            self.assertEqual(count_orders(row), 1)

    def test_two_chains_are_mixed_in_each_way(self):
        for size in range(2, 61):
            for second in [1, size // 2, size - 1]:
                row = tuple(range(second)) + (0,) + tuple(range(second + 1, size))
                self.assertEqual(count_orders(row), math.comb(size - 1, second))

    def test_more_than_thirty_digits(self):
        self.assertGreater(count_orders(bushy_still(60)), 10 ** 30)


class NumbersTest(unittest.TestCase):

    def test_against_all_orders(self):
        for size in SIZES:
            for row in STILL[size]:
                for number, order in enumerate(sorted(ORDERS_OF[size][row], key=sequence_of)):
                    found = nth_order(row, number)
                    self.assertEqual(found, order, (row, number))
                    self.assertIs(type(found), tuple)
                    self.assertTrue(all(is_integer(mark) for mark in found))
                    self.assertEqual(order_number(order), number, order)
                    self.assertTrue(is_integer(order_number(order)))

    def test_first_and_last(self):
        for row in SOME_STILL:
            last = count_orders(row) - 1
            lowest = greedy_order(row, min)
            highest = greedy_order(row, max)
            self.assertEqual(nth_order(row, 0), lowest, row)
            self.assertEqual(nth_order(row, last), highest, row)
            self.assertEqual(order_number(lowest), 0)
            self.assertEqual(order_number(highest), last)

    def test_there_and_back(self):
        choose = random.Random(11)
        for row in LARGE_STILL:
            for _ in range(5):
                number = choose.randrange(count_orders(row))
                order = nth_order(row, number)
                self.assertEqual(sorted(order), list(range(len(row))))
                self.assertEqual(plain_final(order), row)
                self.assertEqual(order_number(order), number)
            order = list(range(len(row)))
            choose.shuffle(order)
            order = tuple(order)
            self.assertEqual(nth_order(plain_final(order), order_number(order)), order)

    def test_greater_sequences_have_greater_numbers(self):
        choose = random.Random(12)
        for row in [bushy_still(60)] + LARGE_STILL[-6:]:
            numbers = sorted({choose.randrange(count_orders(row)) for _ in range(40)})
            sequences = [sequence_of(nth_order(row, number)) for number in numbers]
            self.assertEqual(sequences, sorted(sequences))
            self.assertEqual(len({tuple(sequence) for sequence in sequences}), len(numbers))

    def test_neighbours_share_the_longest_beginning(self):
        # From one number to the next a sequence first rises as late as possible: behind it, the highest one
        # becomes the lowest one.
        choose = random.Random(13)
        for row in [bushy_still(60), LARGE_STILL[-1]]:
            for _ in range(3):
                number = choose.randrange(count_orders(row) - 1)
                self.assertEqual(sequence_of(nth_order(row, number + 1)), self.sequence_after(row, number), number)

    def sequence_after(self, row, number):
        sequence = sequence_of(nth_order(row, number))
        waits = [must_wait(row, person) for person in range(len(row))]
        for at in range(len(row) - 1, -1, -1):
            begun = sequence[:at]
            rest = [person for person in sorted(sequence[at:]) if waits[person] <= set(begun)]
            higher = [person for person in rest if person > sequence[at]]
            if higher:
                begun.append(higher[0])
                while len(begun) < len(row):
                    left = [person for person in range(len(row)) if person not in begun]
                    begun.append(min(person for person in left if waits[person] <= set(begun)))
                return begun
        return None

    def test_one_person(self):
        self.assertEqual([nth_order((0,), 0), order_number((0,))], [(0,), 0])


class FaultsTest(FaultCase):

    def test_no_code(self):
        for value in NO_LINES + NO_CODES:
            self.assert_raises(NoCode, order_of, value)
        self.assert_raises(NoCode, order_of, [0, 1])
        self.assert_raises(NoCode, order_of, (0, True))

    def test_no_line_and_not_still(self):
        for value in NO_LINES:
            self.assert_raises(NoLine, count_orders, value)
            self.assert_raises(NoLine, nth_order, value, 0)
        for line in NOT_STILL:
            self.assert_raises(NotStill, count_orders, line)
            self.assert_raises(NotStill, nth_order, line, 0)

    def test_no_number(self):
        for row in [(0,), (0, 0), (0, 0, 2, 3), (0,) * 60, tuple(range(60)), bushy_still(60)]:
            for value in NO_NUMBERS + [count_orders(row), count_orders(row) + 1]:
                self.assert_raises(NoNumber, nth_order, row, value)

    def test_the_row_is_checked_ahead_of_the_number(self):
        for number in NO_NUMBERS:
            for value in NO_LINES:
                self.assert_raises(NoLine, nth_order, value, number)
            for line in NOT_STILL:
                self.assert_raises(NotStill, nth_order, line, number)

    def test_no_order(self):
        for value in NO_LINES + NO_ORDERS:
            self.assert_raises(NoOrder, order_number, value)
        self.assert_raises(NoOrder, order_number, [0, 1])
        self.assert_raises(NoOrder, order_number, (False, True))

    def test_the_arguments_are_called_as_listed(self):
        wanted = [
            (is_order, "(value)"), (order_of, "(code)"), (count_orders, "(row)"), (nth_order, "(row, number)"),
            (order_number, "(order)"),
        ]
        for function, text in wanted:
            self.assertEqual(str(inspect.signature(function)), text, function.__name__)


if __name__ == "__main__":
    unittest.main()
