"""Section 4 with points 2 and 6: counted, row_after, rows_of, ranks."""

import inspect
import types
import unittest

from countahead.rows import counted, is_code, is_line, ranks, row_after, rows_of
from tests.plain import ALL_LINES, ALL_ROWS, GREAT, LATE_STILL, SOON_STILL
from tests.plain import five_mark_lines, is_integer, plain_counted, plain_final, plain_needed, plain_rows, slow_line


def numbers_of_rounds(size):
    return sorted({0, 1, 2, 3, max(size - 2, 0), size - 1, size, size + 1, size + 2})


class CountedTest(unittest.TestCase):

    def test_against_the_plain_count(self):
        for line in ALL_LINES:
            for person in range(len(line)):
                self.assertEqual(counted(line, person), plain_counted(line, person), (line, person))

    def test_it_is_an_ascending_list_of_integers(self):
        found = counted(tuple(range(-30, 30)), 59)
        self.assertIs(type(found), list)
        self.assertEqual(found, list(range(59)))
        self.assertTrue(all(is_integer(person) for person in found))

    def test_edges(self):
        self.assertEqual(counted((5,), 0), [])
        self.assertEqual(counted((5, 5), 1), [])
        self.assertEqual(counted((4, 5), 1), [0])
        self.assertEqual(counted((5, 4), 1), [])
        self.assertEqual(counted((0, 9), 0), [])
        self.assertEqual(counted((-GREAT, -GREAT + 1, GREAT - 1, GREAT), 3), [0, 1, 2])

    def test_each_list_is_new(self):
        line = (5, 1, 2, 4)
        first = counted(line, 3)
        first.append(99)
        first[0] = -7
        second = counted(line, 3)
        self.assertEqual(second, [1, 2])
        second.clear()
        self.assertEqual(counted(line, 3), [1, 2])
        self.assertEqual(line, (5, 1, 2, 4))


class RowAfterTest(unittest.TestCase):

    def test_against_the_plain_rounds(self):
        for line in ALL_LINES:
            rows = ALL_ROWS[line]
            for rounds in numbers_of_rounds(len(line)):
                self.assertEqual(row_after(line, rounds=rounds), rows[rounds], (line, rounds))

    def test_each_number_of_rounds_of_slow_lines(self):
        for size in [2, 3, 10, 31, 60]:
            line = slow_line(size)
            for rounds, row in enumerate(ALL_ROWS[line]):
                self.assertEqual(row_after(line, rounds=rounds), row, (line, rounds))

    def test_a_line_of_60_that_is_still_after_a_few_rounds(self):
        rows = plain_rows(SOON_STILL)
        self.assertEqual(plain_needed(rows), 12)
        for rounds in [12, 13, 30, 58, 59, 60, 61, GREAT]:
            self.assertEqual(row_after(SOON_STILL, rounds=rounds), rows[12], rounds)
        for rounds in range(12):
            self.assertEqual(row_after(SOON_STILL, rounds=rounds), rows[rounds], rounds)
            self.assertNotEqual(rows[rounds], rows[12])

    def test_a_slow_line_of_60_after_each_number_of_rounds(self):
        for line in [LATE_STILL, slow_line(60)]:
            rows = plain_rows(line)
            self.assertEqual(plain_needed(rows), 59)
            for rounds in range(62):
                self.assertEqual(row_after(line, rounds=rounds), rows[rounds], rounds)
            self.assertEqual(row_after(line, rounds=GREAT), rows[59])

    def test_all_lines_of_up_to_five_persons(self):
        for line in five_mark_lines():
            rows = plain_rows(line)
            for rounds in range(len(line) + 2):
                self.assertEqual(row_after(line, rounds=rounds), rows[rounds], (line, rounds))
            self.assertEqual(list(rows_of(line)), rows[:plain_needed(rows) + 1], line)

    def test_one_round_if_none_is_given(self):
        for line in ALL_LINES:
            self.assertEqual(row_after(line), ALL_ROWS[line][1], line)

    def test_no_round(self):
        for line in ALL_LINES:
            self.assertEqual(row_after(line, rounds=0), line)

    def test_far_more_rounds_than_persons(self):
        for line in ALL_LINES:
            wanted = ALL_ROWS[line][-1]
            for rounds in [61, 10 ** 6, 10 ** 20, GREAT - 1, GREAT]:
                self.assertEqual(row_after(line, rounds=rounds), wanted, (line, rounds))

    def test_all_marks_change_at_once(self):
        # Marks changed one by one from the front would give (0, 1, 2) for the first line.
        self.assertEqual(row_after((3, 1, 2)), (0, 0, 1))
        self.assertEqual(row_after((0, 2, 1)), (0, 1, 1))

    def test_one_person(self):
        for mark in [0, 1, -1, 5, GREAT, -GREAT]:
            self.assertEqual(row_after((mark,)), (0,))
            self.assertEqual(row_after((mark,), rounds=0), (mark,))
            self.assertEqual(row_after((mark,), rounds=GREAT), (0,))

    def test_it_is_a_code_after_a_round(self):
        for line in ALL_LINES:
            row = row_after(line)
            self.assertIs(type(row), tuple)
            self.assertTrue(is_code(row), row)

    def test_rounds_by_keyword_with_the_default_1(self):
        self.assertEqual(str(inspect.signature(row_after)), "(line, *, rounds=1)")

    def test_rounds_add_up(self):
        line = slow_line(20)
        row = line
        for rounds in range(25):
            self.assertEqual(row, row_after(line, rounds=rounds))
            row = row_after(row)


class MainResultTest(unittest.TestCase):
    """Point 2 (a) and (d)."""

    def test_a_final_after_at_most_n_minus_1_rounds(self):
        for line in ALL_LINES:
            most = max(1, len(line) - 1)
            self.assertEqual(row_after(line, rounds=most), plain_final(line), line)
            self.assertEqual(row_after(line, rounds=most + 1), plain_final(line), line)

    def test_d_between_the_rounds_and_the_final_mark(self):
        for line in ALL_LINES:
            final = plain_final(line)
            for rounds in numbers_of_rounds(len(line)):
                if rounds > 0:
                    for mark, last in zip(row_after(line, rounds=rounds), final):
                        self.assertLessEqual(min(rounds, last), mark, (line, rounds))
                        self.assertLessEqual(mark, last, (line, rounds))


class RowsOfTest(unittest.TestCase):

    def test_against_the_plain_rounds(self):
        for line in ALL_LINES:
            rows = ALL_ROWS[line]
            self.assertEqual(list(rows_of(line)), rows[:plain_needed(rows) + 1], line)

    def test_a_still_line_alone(self):
        for line in [(0,), (0, 0), (0, 1), (0, 0, 2, 3), (0,) * 60, tuple(range(60))]:
            self.assertEqual(list(rows_of(line)), [line])

    def test_one_person(self):
        self.assertEqual(list(rows_of((5,))), [(5,), (0,)])
        self.assertEqual(list(rows_of((0,))), [(0,)])

    def test_the_longest(self):
        self.assertEqual(len(list(rows_of(slow_line(60)))), 60)

    def test_it_is_a_generator(self):
        self.assertTrue(inspect.isgeneratorfunction(rows_of))
        rows = rows_of((5, 1, 2, 4))
        self.assertIsInstance(rows, types.GeneratorType)
        self.assertEqual(next(rows), (5, 1, 2, 4))
        self.assertEqual(next(rows), (0, 0, 1, 2))
        self.assertEqual(next(rows), (0, 0, 2, 3))
        self.assertRaises(StopIteration, next, rows)

    def test_two_at_the_same_time(self):
        line = slow_line(12)
        for row, again in zip(rows_of(line), rows_of(line)):
            self.assertEqual(row, again)


class RanksTest(unittest.TestCase):

    def test_against_a_plain_count(self):
        for line in ALL_LINES:
            wanted = []
            for mark in line:
                smaller = {}
                for other in line:
                    if other < mark:
                        smaller[other] = True
                wanted.append(len(smaller))
            self.assertEqual(ranks(line), tuple(wanted), line)

    def test_same_final_row(self):
        for line in ALL_LINES:
            self.assertEqual(plain_final(ranks(line)), plain_final(line), line)

    def test_edges(self):
        self.assertEqual(ranks((5,)), (0,))
        self.assertEqual(ranks((-5, -5)), (0, 0))
        self.assertEqual(ranks((0, 9, 0)), (0, 1, 0))
        self.assertEqual(ranks((GREAT, -GREAT)), (1, 0))
        self.assertEqual(ranks(tuple(range(60, 0, -1))), tuple(range(59, -1, -1)))

    def test_an_order_stays(self):
        self.assertEqual(ranks((3, 0, 2, 1)), (3, 0, 2, 1))

    def test_it_is_a_line(self):
        for line in ALL_LINES:
            self.assertTrue(is_line(ranks(line)))


if __name__ == "__main__":
    unittest.main()
