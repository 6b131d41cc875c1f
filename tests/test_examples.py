"""The examples of sections 4 and 5 and the table of point 10, as the document shows them."""

import unittest

from countahead.rows import counted, is_code, is_line, ranks, row_after, rows_of
from countahead.steps import final_row, is_still, last_smaller, meet, person_rounds, rounds_needed


class TableTest(unittest.TestCase):

    def test_the_table_of_rounds(self):
        line = (5, 1, 2, 4)
        table = [(5, 1, 2, 4), (0, 0, 1, 2), (0, 0, 2, 3), (0, 0, 2, 3)]
        for rounds, row in enumerate(table):
            self.assertEqual(row_after(line, rounds=rounds), row)

    def test_the_still_row(self):
        still = (0, 0, 2, 3)
        self.assertEqual(final_row((5, 1, 2, 4)), still)
        self.assertIs(is_still(still), True)


class RowsExamplesTest(unittest.TestCase):

    def test_is_line_and_is_code(self):
        found = [is_line((5, 1, 2, 4)), is_line([5, 1]), is_code((0, 1, 0)), is_code((0, 2))]
        self.assertEqual(found, [True, False, True, False])

    def test_counted(self):
        line = (5, 1, 2, 4)
        self.assertEqual(counted(line, 3), [1, 2])

    def test_row_after(self):
        line = (5, 1, 2, 4)
        self.assertEqual([row_after(line), row_after(line, rounds=10 ** 30)], [(0, 0, 1, 2), (0, 0, 2, 3)])

    def test_rows_of(self):
        line = (5, 1, 2, 4)
        self.assertEqual(list(rows_of(line)), [(5, 1, 2, 4), (0, 0, 1, 2), (0, 0, 2, 3)])

    def test_ranks(self):
        self.assertEqual(ranks((5, 1, 5, -4)), (2, 1, 2, 0))


class StepsExamplesTest(unittest.TestCase):

    def test_last_smaller(self):
        line = (5, 1, 2, 4)
        self.assertEqual([last_smaller(line, 1), last_smaller(line, 3)], [None, 2])

    def test_final_row(self):
        line = (5, 1, 2, 4)
        self.assertEqual([final_row(line), final_row((0, 1, 0, 1))], [(0, 0, 2, 3), (0, 1, 0, 3)])

    def test_is_still(self):
        self.assertEqual([is_still((0, 0, 1, 2)), is_still((0, 0, 2, 3))], [False, True])

    def test_person_rounds(self):
        line = (5, 1, 2, 4)
        self.assertEqual([person_rounds(line, person) for person in range(4)], [1, 1, 2, 2])

    def test_rounds_needed(self):
        line = (5, 1, 2, 4)
        self.assertEqual([rounds_needed(line), rounds_needed((6, 7, 8, 0, 5)), rounds_needed((0, 0))], [2, 4, 0])

    def test_meet(self):
        line = (5, 1, 2, 4)
        self.assertEqual([meet(line, (0, 0, 1, 3)), meet(line, (1, 2, 3, 4))], [2, None])


if __name__ == "__main__":
    unittest.main()
