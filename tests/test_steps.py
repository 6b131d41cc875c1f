"""Section 5 with point 7: last_smaller, final_row, is_still, person_rounds, rounds_needed, meet."""

import random
import unittest

from countahead.rows import ranks
from countahead.steps import final_row, is_still, last_smaller, meet, person_rounds, rounds_needed
from tests.plain import ALL_LINES, ALL_ROWS, GREAT, LATE_STILL, SOON_STILL, five_mark_lines, is_integer, lines_of
from tests.plain import plain_final, plain_last, plain_meet, plain_needed, plain_person_rounds, plain_rows, slow_line


class LastSmallerTest(unittest.TestCase):

    def test_against_the_plain_search(self):
        for line in ALL_LINES:
            for person in range(len(line)):
                found = last_smaller(line, person)
                self.assertEqual(found, plain_last(line, person), (line, person))
                self.assertTrue(found is None or is_integer(found))

    def test_the_person_at_the_front_is_a_person_and_not_none(self):
        self.assertIs(type(last_smaller((0, 1), 1)), int)
        self.assertEqual(last_smaller((0, 1), 1), 0)
        self.assertIsNone(last_smaller((0, 1), 0))
        self.assertIsNone(last_smaller((1, 1), 1))
        self.assertIsNone(last_smaller((5,), 0))


class FinalRowTest(unittest.TestCase):

    def test_against_the_plain_search(self):
        for line in ALL_LINES:
            self.assertEqual(final_row(line), plain_final(line), line)

    def test_against_the_plain_rounds(self):
        for line in ALL_LINES:
            self.assertEqual(final_row(line), ALL_ROWS[line][-1], line)

    def test_it_stays(self):
        for line in ALL_LINES:
            self.assertEqual(final_row(final_row(line)), final_row(line), line)

    def test_kind(self):
        self.assertIs(type(final_row((5, 1))), tuple)
        self.assertEqual(final_row((-GREAT,)), (0,))
        self.assertEqual(final_row((GREAT - 1, GREAT)), (0, 1))


class StillTest(unittest.TestCase):

    def test_against_the_plain_rounds(self):
        found = 0
        for line in ALL_LINES:
            wanted = ALL_ROWS[line][1] == line
            found += wanted
            self.assertIs(is_still(line), wanted, line)
        self.assertGreater(found, 50)

    def test_a_final_row_is_still(self):
        for line in ALL_LINES:
            self.assertIs(is_still(final_row(line)), True, line)

    def test_edges(self):
        self.assertIs(is_still((0,)), True)
        self.assertIs(is_still((1,)), False)
        self.assertIs(is_still((-1,)), False)
        self.assertIs(is_still((0, 1, 1, 2)), False)
        self.assertIs(is_still((0, 1, 1, 3)), True)


class PersonRoundsTest(unittest.TestCase):

    def compare(self, line, rows):
        found = [person_rounds(line, person) for person in range(len(line))]
        for person in range(len(line)):
            self.assertEqual(found[person], plain_person_rounds(rows, person), (line, person))
            self.assertTrue(is_integer(found[person]))
        self.assertEqual(max(found), plain_needed(rows), line)
        return found

    def test_against_the_plain_rounds(self):
        for line in ALL_LINES:
            self.compare(line, ALL_ROWS[line])

    def test_all_lines_of_up_to_five_persons(self):
        for line in five_mark_lines():
            self.compare(line, plain_rows(line))

    def test_drawn_lines(self):
        choose = random.Random(14)
        for size in range(1, 61):
            for greatest in [size // 4, size, GREAT]:
                line = tuple(choose.randint(-greatest, greatest) for _ in range(size))
                self.compare(line, plain_rows(line))

    def test_slow_lines(self):
        self.assertEqual(self.compare(LATE_STILL, plain_rows(LATE_STILL)), [1] * 58 + [0, 59])
        for size in range(2, 61):
            line = slow_line(size)
            self.assertEqual(self.compare(line, plain_rows(line))[-1], size - 1)

    def test_many_slow_persons(self):
        for size in [4, 11, 31, 60]:
            line = tuple(range(size, size + size // 2)) + tuple(range(size - size // 2))
            self.compare(line, plain_rows(line))
            line = tuple(range(size, size + size // 2)) + (0,) + (2,) * (size - size // 2 - 1)
            self.compare(line, plain_rows(line))

    def test_soon_still(self):
        self.assertEqual(max(self.compare(SOON_STILL, plain_rows(SOON_STILL))), 12)

    def test_lines_with_equal_marks(self):
        choose = random.Random(15)
        for size in [2, 5, 17, 40, 60]:
            for marks in [(7,), (0, 1), (0, 5, 59), (-1, 0, 1, 2), tuple(range(size // 2 + 1))]:
                line = tuple(choose.choice(marks) for _ in range(size))
                self.compare(line, plain_rows(line))
                line = tuple(sorted(line))
                self.compare(line, plain_rows(line))
                self.compare(line[::-1], plain_rows(line[::-1]))

    def test_a_final_mark_at_the_start_that_stays(self):
        for row in [(0,), (0, 1), (0, 0, 2, 3), tuple(range(60)), (0,) * 60]:
            self.assertEqual(self.compare(row, plain_rows(row)), [0] * len(row))

    def test_a_mark_that_leaves_its_final_value_and_comes_back(self):
        # Played: 2 0 2, then 0 0 1, then 0 0 2: the mark at the end is the final one, but not to stay.
        self.assertEqual(person_rounds((2, 0, 2), 2), 2)
        self.assertEqual([person_rounds((2, 0, 2), person) for person in range(3)], [1, 0, 2])

    def test_one_person(self):
        self.assertEqual(person_rounds((0,), 0), 0)
        self.assertEqual(person_rounds((1,), 0), 1)


class RoundsNeededTest(unittest.TestCase):

    def test_all_lines_of_up_to_five_persons(self):
        for line in five_mark_lines():
            rows = plain_rows(line)
            self.assertEqual(rounds_needed(line), plain_needed(rows), line)
            self.assertEqual(final_row(line), rows[-1], line)
            self.assertIs(is_still(line), rows[1] == line, line)
            for person in range(len(line)):
                self.assertEqual(last_smaller(line, person), plain_last(line, person), (line, person))

    def test_against_the_plain_rounds(self):
        for line in ALL_LINES:
            found = rounds_needed(line)
            self.assertEqual(found, plain_needed(ALL_ROWS[line]), line)
            self.assertTrue(is_integer(found))
            self.assertLessEqual(found, max(1, len(line) - 1))

    def test_lines_that_take_n_minus_1_rounds(self):
        for size in range(2, 61):
            self.assertEqual(rounds_needed(slow_line(size)), size - 1)

    def test_still_lines_take_none(self):
        for line in [(0,), (0, 1), (0, 0, 2, 3), (0,) * 60]:
            self.assertEqual(rounds_needed(line), 0)

    def test_one_person(self):
        self.assertEqual(rounds_needed((7,)), 1)
        self.assertEqual(rounds_needed((-GREAT,)), 1)


class MeetTest(unittest.TestCase):

    def compare(self, line, other):
        wanted = plain_meet(ALL_ROWS[line], ALL_ROWS[other])
        self.assertEqual(meet(line, other), wanted, (line, other))
        self.assertEqual(meet(other, line), wanted, (other, line))
        return wanted

    def lines_by_size(self):
        sizes = {}
        for line in ALL_LINES:
            sizes.setdefault(len(line), []).append(line)
        return sizes

    def test_against_the_plain_rounds(self):
        choose = random.Random(5)
        found = {}
        for lines in self.lines_by_size().values():
            for _ in range(100):
                wanted = self.compare(choose.choice(lines), choose.choice(lines))
                found[wanted] = True
        self.assertIn(None, found)

    def test_lines_with_the_same_final_row(self):
        choose = random.Random(6)
        finals = {}
        for line in ALL_LINES:
            finals.setdefault(plain_final(line), []).append(line)
        found = {}
        for lines in finals.values():
            for _ in range(20):
                wanted = self.compare(choose.choice(lines), choose.choice(lines))
                found[wanted] = True
        self.assertNotIn(None, found)
        self.assertTrue({0, 1, 2, 3}.issubset(found))

    def test_all_pairs_of_lines_of_three_persons(self):
        lines = self.lines_by_size()[3]
        for line in lines:
            for other in lines:
                self.compare(line, other)

    def test_lines_of_60_persons(self):
        choose = random.Random(16)
        lines = [SOON_STILL, LATE_STILL, slow_line(60)]
        for _ in range(5):
            lines.extend(lines_of(60, choose))
        for line in lines:
            rows = plain_rows(line)
            # Each of these comes to the same final row: its own rows, and lines with the same order of marks.
            for other in [rows[1], rows[2], rows[5], tuple(2 * mark - 1 for mark in rows[1]), ranks(line)]:
                wanted = plain_meet(rows, plain_rows(other))
                self.assertEqual(meet(line, other), wanted, (line, other))
                self.assertEqual(meet(other, line), wanted, (other, line))

    def test_equal_lines(self):
        for line in ALL_LINES:
            found = meet(line, line)
            self.assertEqual(found, 0)
            self.assertTrue(is_integer(found))
            self.assertEqual(meet(line, tuple(list(line))), 0)

    def test_a_line_and_its_final_row_meet_when_it_is_still(self):
        for line in ALL_LINES:
            self.assertEqual(meet(line, final_row(line)), rounds_needed(line), line)
            self.assertEqual(meet(final_row(line), line), rounds_needed(line), line)

    def test_a_line_and_the_one_after_a_round(self):
        line = slow_line(60)
        self.assertEqual(meet(line, ALL_ROWS[line][1]), 59)
        self.assertEqual(meet(line, ALL_ROWS[line][58]), 59)

    def test_never(self):
        for size in range(2, 61):
            self.assertIsNone(meet((0,) * size, tuple(range(size))))
            self.assertIsNone(meet(slow_line(size), (0,) * size))

    def test_one_person(self):
        self.assertEqual(meet((5,), (5,)), 0)
        self.assertEqual(meet((5,), (7,)), 1)
        self.assertEqual(meet((GREAT,), (-GREAT,)), 1)
        self.assertEqual(meet((0,), (7,)), 1)


if __name__ == "__main__":
    unittest.main()
