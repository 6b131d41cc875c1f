"""Section 10 with point 11: least_before, has_before, count_before, nth_before, number_before."""

import functools
import inspect
import itertools
import random
import unittest

from countahead.before import count_before, has_before, least_before, nth_before, number_before
from countahead.errors import NoCode, NoNumber
from tests.faults import FaultCase
from tests.plain import GREAT, NO_LINES, is_integer, plain_round, slow_line
from tests.walks import CODES, LARGE_STILL, NO_CODES, NO_NUMBERS, ORDERS, SIZES, led, sequence_of

OF_A_CODE = [least_before, has_before, count_before, number_before]


def plain_sequence(code):
    """The persons from the smallest to the greatest mark of the one order from which a round leads to the code."""
    sequence = []
    left = list(range(len(code)))
    # The last one of those left counts none of the others, and nobody behind counts fewer: the smallest mark of all.
    counts = list(code)
    while left:
        person = max(other for other in left if counts[other] == 0)
        sequence.append(person)
        left.remove(person)
        for other in left:
            if other > person:
                counts[other] -= 1
    return sequence


def marks_in(line, sequence):
    return [line[person] for person in sequence]


def plain_count(code):
    """From the end of the sequence back, by the marks of the persons."""
    sequence = plain_sequence(code)

    @functools.cache
    def count(at, lowest):
        if at == len(sequence):
            return 1
        total = 0
        for mark in range(lowest, sequence[at] + 1):
            rises = at + 1 < len(sequence) and sequence[at + 1] > sequence[at]
            total += count(at + 1, mark + 1 if rises else mark)
        return total

    return count(0, 0)


def plain_greatest(code):
    """Of the codes before the code the one with the greatest marks in its sequence; each may be chosen alone."""
    sequence = plain_sequence(code)
    marks = [0] * len(code)
    most = len(code)
    after = -1
    for person in reversed(sequence):
        most = min(person, most - 1 if after > person else most)
        marks[person] = most
        after = person
    return tuple(marks)


def drawn_codes():
    choose = random.Random(31)
    codes = []
    for size in [7, 12, 30, 59, 60]:
        for lowest in [0, 1, 2, 3]:
            for _ in range(5):
                codes.append(tuple(choose.randint(lowest * place // 4, place) for place in range(size)))
        codes.extend([(0,) * size, tuple(range(size)), tuple(place // 2 for place in range(size))])
        codes.append(plain_round(slow_line(size)))
    return codes + LARGE_STILL


DRAWN = drawn_codes()
FOLLOWING = [plain_round(code) for code in DRAWN]
CODES_TO = {size: led(CODES[size]) for size in SIZES}


class ExamplesTest(unittest.TestCase):

    def test_least_before(self):
        self.assertEqual([least_before((0, 0, 2, 3)), least_before((0, 0, 1))], [(0, 0, 1, 2), (1, 0, 1)])

    def test_count_before_and_has_before(self):
        self.assertEqual([count_before((0, 0, 2, 3)), has_before((0, 0, 1))], [3, False])

    def test_nth_before_and_number_before(self):
        found = [nth_before((0, 0, 2, 3), number) for number in range(3)]
        self.assertEqual(found, [(0, 0, 1, 2), (0, 0, 1, 3), (0, 0, 2, 3)])
        self.assertEqual(number_before((0, 0, 1, 3)), 1)


class SequenceTest(unittest.TestCase):
    """What the tests are built on, and point 11."""

    def test_the_sequence_is_that_of_the_one_order(self):
        for size in SIZES:
            for order in ORDERS[size]:
                self.assertEqual(plain_sequence(plain_round(order)), sequence_of(order))

    def test_point_11(self):
        for size in range(1, 5):
            for line in itertools.product(range(size + 1), repeat=size):
                for code in CODES[size]:
                    sequence = plain_sequence(code)
                    marks = marks_in(line, sequence)
                    fits = all(
                        marks[at] < marks[at + 1] if sequence[at] < sequence[at + 1] else marks[at] <= marks[at + 1]
                        for at in range(size - 1)
                    )
                    self.assertEqual(plain_round(line) == code, fits)


class LeastBeforeTest(unittest.TestCase):

    def test_against_all_lines_of_few_persons(self):
        for size in range(1, 6):
            lines_to = led(itertools.product(range(size), repeat=size))
            self.assertEqual(sorted(lines_to), CODES[size])
            for code, lines in lines_to.items():
                least = least_before(code)
                self.assertIn(least, lines)
                for line in lines:
                    self.assertTrue(all(low <= mark for low, mark in zip(least, line)), (code, line))

    def test_it_leads_to_the_code_and_no_mark_can_be_lower(self):
        for code in CODES[6] + DRAWN + FOLLOWING:
            least = least_before(code)
            self.assertIs(type(least), tuple)
            self.assertTrue(all(is_integer(mark) for mark in least))
            self.assertEqual(min(least), 0)
            self.assertEqual(plain_round(least), code)
            for person, mark in enumerate(least):
                lower = least[:person] + (mark - 1,) + least[person + 1:]
                self.assertTrue(mark == 0 or plain_round(lower) != code, (code, person))

    def test_edges(self):
        self.assertEqual(least_before((0,)), (0,))
        self.assertEqual(least_before((0,) * 60), (0,) * 60)
        self.assertEqual(least_before(tuple(range(60))), tuple(range(60)))
        self.assertEqual(least_before((0,) * 59 + (1,)), (1,) * 58 + (0, 1))


class CodesBeforeTest(unittest.TestCase):

    def test_against_all_codes_of_few_persons(self):
        for size in SIZES:
            for code in CODES[size]:
                codes = CODES_TO[size].get(code, [])
                self.assertIs(has_before(code), len(codes) > 0, code)
                self.assertEqual(count_before(code), len(codes), code)
                sequence = plain_sequence(code)
                codes = sorted(codes, key=lambda before: marks_in(before, sequence))
                for number, before in enumerate(codes):
                    self.assertEqual(nth_before(code, number), before, (code, number))
                    self.assertEqual(number_before(before), number, before)

    def test_counts_of_many_persons(self):
        for code in DRAWN + FOLLOWING:
            wanted = plain_count(code)
            found = count_before(code)
            self.assertEqual(found, wanted, code)
            self.assertTrue(is_integer(found))
            self.assertIs(has_before(code), wanted > 0, code)
        self.assertTrue(any(count_before(code) == 0 for code in DRAWN))
        self.assertTrue(all(has_before(code) for code in FOLLOWING))

    def test_first_and_last(self):
        for code in FOLLOWING:
            last = count_before(code) - 1
            self.assertEqual(nth_before(code, 0), least_before(code))
            self.assertEqual(number_before(least_before(code)), 0)
            self.assertEqual(nth_before(code, last), plain_greatest(code))
            self.assertEqual(number_before(plain_greatest(code)), last)

    def test_there_and_back(self):
        choose = random.Random(32)
        for before, code in zip(DRAWN, FOLLOWING):
            number = number_before(before)
            self.assertTrue(is_integer(number))
            self.assertEqual(nth_before(code, number), before)
            number = choose.randrange(count_before(code))
            found = nth_before(code, number)
            self.assertIs(type(found), tuple)
            self.assertTrue(all(is_integer(mark) and 0 <= mark <= place for place, mark in enumerate(found)))
            self.assertEqual(plain_round(found), code)
            self.assertEqual(number_before(found), number)

    def test_greater_lists_of_marks_have_greater_numbers(self):
        choose = random.Random(33)
        for code in FOLLOWING:
            sequence = plain_sequence(code)
            numbers = sorted({choose.randrange(count_before(code)) for _ in range(10)})
            lists = [marks_in(nth_before(code, number), sequence) for number in numbers]
            self.assertEqual(lists, sorted(lists))
            self.assertEqual(len({tuple(marks) for marks in lists}), len(numbers))

    def test_a_still_row_leads_to_itself(self):
        for row in LARGE_STILL:
            self.assertIs(has_before(row), True)
            self.assertEqual(nth_before(row, number_before(row)), row)

    def test_edges(self):
        self.assertEqual([has_before((0,)), count_before((0,)), nth_before((0,), 0), number_before((0,))],
                         [True, 1, (0,), 0])
        alone = (0,) * 60
        self.assertEqual([count_before(alone), nth_before(alone, 0), number_before(alone)], [1, alone, 0])
        rising = tuple(range(60))
        self.assertEqual([count_before(rising), nth_before(rising, 0), number_before(rising)], [1, rising, 0])
        none = (0,) * 59 + (1,)
        self.assertEqual([has_before(none), count_before(none)], [False, 0])
        self.assertRaises(NoNumber, nth_before, none, 0)

    def test_counts_of_many_digits(self):
        late = tuple(range(31)) + (31,) * 29
        self.assertEqual(count_before(late), plain_count(late))
        self.assertGreater(max(count_before(code) for code in FOLLOWING), 10 ** 15)


class FaultsTest(FaultCase):

    def test_no_code(self):
        for value in NO_LINES + NO_CODES + [[0, 1], (0, True), (False,), (0, 1, GREAT)]:
            for function in OF_A_CODE:
                self.assert_raises(NoCode, function, value)
            self.assert_raises(NoCode, nth_before, value, 0)

    def test_no_number(self):
        codes = [(0,), (0, 0, 1), (0, 0, 2, 3), (0,) * 60, tuple(range(60)), (0,) * 59 + (1,)] + FOLLOWING[-3:]
        for code in codes:
            for value in NO_NUMBERS + [count_before(code), count_before(code) + 1]:
                self.assert_raises(NoNumber, nth_before, code, value)

    def test_the_code_is_checked_ahead_of_the_number(self):
        for value in NO_LINES + NO_CODES:
            for number in NO_NUMBERS:
                self.assert_raises(NoCode, nth_before, value, number)

    def test_the_arguments_are_called_as_listed(self):
        for function in OF_A_CODE:
            self.assertEqual(str(inspect.signature(function)), "(code)")
        self.assertEqual(str(inspect.signature(nth_before)), "(code, number)")

    def test_an_error_has_no_effect_on_a_later_call(self):
        code = (0, 0, 2, 3)
        self.assert_raises(NoNumber, nth_before, code, 3)
        self.assert_raises(NoCode, number_before, [0])
        self.assertEqual([nth_before(code, 2), number_before(code), count_before(code)], [code, 2, 3])


if __name__ == "__main__":
    unittest.main()
