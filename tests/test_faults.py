"""The listed errors of sections 4 and 5, alone and several at once, in the listed order; points 3 and 4."""

import inspect
import unittest

from countahead.errors import NoLine, NoPerson, NoRounds, NotAlike
from countahead.rows import counted, is_code, is_line, ranks, row_after, rows_of
from countahead.steps import final_row, is_still, last_smaller, meet, person_rounds, rounds_needed
from tests.faults import FaultCase
from tests.plain import GREAT, NO_LINES, NO_PERSONS, NO_ROUNDS

GOOD_LINES = [(5, 1, 2, 4), (0,), (-GREAT, GREAT), (0, 0, 2, 3), tuple(range(60)), (7,) * 60]
OF_A_LINE = [row_after, ranks, final_row, is_still, rounds_needed]
OF_A_PERSON = [counted, last_smaller, person_rounds]


class NoLineTest(FaultCase):

    def test_functions_of_a_line(self):
        for value in NO_LINES:
            for function in OF_A_LINE:
                self.assert_raises(NoLine, function, value)

    def test_rows_of(self):
        for value in NO_LINES:
            rows = rows_of(value)
            self.assert_raises(NoLine, next, rows)
            self.assert_raises(NoLine, list, rows_of(value))

    def test_rows_of_raises_at_the_first_item_and_not_at_the_call(self):
        value = [5, 1]
        rows = rows_of(value)
        self.assertEqual(value, [5, 1])
        with self.assertRaises(NoLine):
            next(rows)

    def test_functions_of_a_person(self):
        for value in NO_LINES:
            for function in OF_A_PERSON:
                self.assert_raises(NoLine, function, value, 0)

    def test_row_after(self):
        for value in NO_LINES:
            self.assert_raises(NoLine, row_after, value, rounds=0)
            self.assert_raises(NoLine, row_after, value, rounds=GREAT)

    def test_meet(self):
        for value in NO_LINES:
            self.assert_raises(NoLine, meet, value, (5, 1, 2, 4))
            self.assert_raises(NoLine, meet, (5, 1, 2, 4), value)
            self.assert_raises(NoLine, meet, (0,), value)


class NoPersonTest(FaultCase):

    def test_what_is_no_person(self):
        for function in OF_A_PERSON:
            for line in GOOD_LINES:
                for value in NO_PERSONS:
                    self.assert_raises(NoPerson, function, line, value)

    def test_one_behind_the_end(self):
        for function in OF_A_PERSON:
            for size in range(1, 61):
                line = (0,) * size
                self.assert_raises(NoPerson, function, line, size)
                self.assert_raises(NoPerson, function, line, -size)
                self.assert_raises(NoPerson, function, line, -1)
                function(line, size - 1)


class NoRoundsTest(FaultCase):

    def test_what_is_no_number_of_rounds(self):
        for line in GOOD_LINES:
            for value in NO_ROUNDS:
                self.assert_raises(NoRounds, row_after, line, rounds=value)

    def test_the_ends(self):
        line = (5, 1, 2, 4)
        self.assertEqual(row_after(line, rounds=0), line)
        self.assertEqual(row_after(line, rounds=GREAT), (0, 0, 2, 3))
        self.assert_raises(NoRounds, row_after, line, rounds=-1)
        self.assert_raises(NoRounds, row_after, line, rounds=GREAT + 1)


class NotAlikeTest(FaultCase):

    def test_different_lengths(self):
        for line in GOOD_LINES:
            for other in GOOD_LINES:
                if len(line) != len(other):
                    self.assert_raises(NotAlike, meet, line, other)

    def test_one_person_more(self):
        for size in range(1, 60):
            self.assert_raises(NotAlike, meet, (0,) * size, (0,) * (size + 1))
            self.assert_raises(NotAlike, meet, (0,) * (size + 1), (0,) * size)


class SeveralAtOnceTest(FaultCase):

    def test_the_line_is_checked_ahead_of_the_person(self):
        for function in OF_A_PERSON:
            for line in NO_LINES:
                for person in NO_PERSONS:
                    self.assert_raises(NoLine, function, line, person)

    def test_the_line_is_checked_ahead_of_the_rounds(self):
        for line in NO_LINES:
            for rounds in NO_ROUNDS:
                self.assert_raises(NoLine, row_after, line, rounds=rounds)

    def test_both_lines_are_checked_ahead_of_the_lengths(self):
        for line in NO_LINES:
            for other in NO_LINES:
                self.assert_raises(NoLine, meet, line, other)
        self.assert_raises(NoLine, meet, (0,), [0, 1])
        self.assert_raises(NoLine, meet, [0, 1], (0,))
        self.assert_raises(NoLine, meet, (0,) * 61, (0,) * 60)
        self.assert_raises(NoLine, meet, (0,) * 60, (0,) * 61)


class NoStateTest(FaultCase):

    def test_an_error_has_no_effect_on_a_later_call(self):
        line = (5, 1, 2, 4)
        before = [counted(line, 3), row_after(line), list(rows_of(line)), person_rounds(line, 3)]
        self.assert_raises(NoPerson, counted, line, 4)
        self.assert_raises(NoRounds, row_after, line, rounds=-1)
        self.assert_raises(NoPerson, person_rounds, line, None)
        self.assertEqual([counted(line, 3), row_after(line), list(rows_of(line)), person_rounds(line, 3)], before)

    def test_the_arguments_are_as_before(self):
        for line in GOOD_LINES:
            held = list(line)
            for function in OF_A_LINE:
                function(line)
            for function in OF_A_PERSON:
                function(line, len(line) - 1)
            row_after(line, rounds=GREAT)
            list(rows_of(line))
            meet(line, line)
            self.assertEqual(list(line), held)

    def test_a_returned_row_may_be_passed_back(self):
        for line in GOOD_LINES:
            for row in rows_of(line):
                self.assertEqual(final_row(row_after(row)), final_row(line))
            final_row(ranks(line))


class SignatureTest(unittest.TestCase):

    def test_the_arguments_are_called_as_listed(self):
        wanted = [
            (is_line, "(value)"), (is_code, "(value)"), (counted, "(line, person)"),
            (row_after, "(line, *, rounds=1)"), (rows_of, "(line)"), (ranks, "(line)"),
            (last_smaller, "(line, person)"), (final_row, "(line)"), (is_still, "(line)"),
            (person_rounds, "(line, person)"), (rounds_needed, "(line)"), (meet, "(line, other)"),
        ]
        for function, text in wanted:
            self.assertEqual(str(inspect.signature(function)), text, function.__name__)


if __name__ == "__main__":
    unittest.main()
