"""Points 3, 5 and 8: what is a line, and what is a code."""

import copy
import unittest

from countahead.rows import is_code, is_line
from tests.plain import ALL_LINES, GREAT, NO_LINES


class LineTest(unittest.TestCase):

    def test_lines(self):
        for value in ALL_LINES:
            self.assertIs(is_line(value), True, value)

    def test_what_is_no_line(self):
        for value in NO_LINES:
            self.assertIs(is_line(value), False, value)

    def test_numbers_of_persons(self):
        for size in range(0, 200):
            self.assertIs(is_line((0,) * size), 1 <= size <= 60, size)

    def test_greatest_and_least_marks(self):
        for mark in [GREAT, GREAT - 1, -GREAT, -GREAT + 1, 0, -1]:
            self.assertIs(is_line((mark,)), True, mark)
            self.assertIs(is_line((0, mark, 0)), True, mark)
        for mark in [GREAT + 1, -GREAT - 1, 10 ** 31, -10 ** 31, 10 ** 99]:
            self.assertIs(is_line((mark,)), False, mark)
            self.assertIs(is_line((0, 0, mark)), False, mark)
            self.assertIs(is_line((mark, 0, 0)), False, mark)

    def test_a_bool_is_no_mark_at_any_place(self):
        for mark in [True, False]:
            for place in range(4):
                marks = [5, 1, 2, 4]
                marks[place] = mark
                self.assertIs(is_line(tuple(marks)), False, marks)

    def test_one_wrong_mark_among_sixty(self):
        good = [(place * 37) % 61 - 10 ** 29 for place in range(60)]
        self.assertIs(is_line(tuple(good)), True)
        wrong = [None, True, False, "", "7", "seven", [], [7], (), (7,), {}, {7: 7}, b"7", object(), int]
        wrong.extend([GREAT + 1, -GREAT - 1, 10 ** 99, -10 ** 99])
        for place in [0, 1, 29, 30, 58, 59]:
            for mark in wrong:
                marks = list(good)
                marks[place] = mark
                self.assertIs(is_line(tuple(marks)), False, (place, mark))
                codes = list(range(60))
                codes[place] = mark
                self.assertIs(is_code(tuple(codes)), False, (place, mark))

    def test_an_int_that_is_not_a_bool_is_an_integer(self):

        class Mark(int):
            pass

        self.assertIs(is_line((5, Mark(1), Mark(-GREAT))), True)
        self.assertIs(is_line((5, Mark(GREAT + 1))), False)
        self.assertIs(is_code((0, Mark(1))), True)
        self.assertIs(is_code((0, Mark(2))), False)

    def test_several_wrong_marks(self):
        for mark in [None, True, "7", [7], GREAT + 1]:
            self.assertIs(is_line((mark,) * 60), False)
            self.assertIs(is_line((0, mark, None, "7", mark)), False)

    def test_deep_values(self):
        deep = ()
        for _ in range(39):
            deep = (deep,)
        self.assertIs(is_line(deep), False)
        self.assertIs(is_line((1, deep)), False)
        self.assertIs(is_code(deep), False)
        self.assertIs(is_code((0, deep)), False)


class CodeTest(unittest.TestCase):

    def test_codes_among_the_lines(self):
        found = 0
        for value in ALL_LINES:
            wanted = all(mark in range(place + 1) for place, mark in enumerate(value))
            found += wanted
            self.assertIs(is_code(value), wanted, value)
        self.assertGreater(found, 100)
        self.assertLess(found, len(ALL_LINES) - 100)

    def test_what_is_no_line_is_no_code(self):
        for value in NO_LINES:
            self.assertIs(is_code(value), False, value)

    def test_numbers_of_persons(self):
        for size in range(0, 200):
            self.assertIs(is_code((0,) * size), 1 <= size <= 60, size)
            self.assertIs(is_code(tuple(range(size))), 1 <= size <= 60, size)

    def test_a_mark_at_its_place_and_one_above(self):
        for size in [1, 2, 3, 30, 60]:
            for place in range(size):
                marks = [0] * size
                for mark, wanted in [(place, True), (place + 1, False), (0, True), (-1, False), (GREAT, False)]:
                    marks[place] = mark
                    self.assertIs(is_code(tuple(marks)), wanted, marks)

    def test_a_bool_is_no_mark(self):
        for value in [(False,), (0, True), (0, False), (0, 1, True), (False, 1, 2)]:
            self.assertIs(is_code(value), False, value)

    def test_a_list_is_no_code(self):
        self.assertIs(is_code([0, 1, 0]), False)
        self.assertIs(is_code([0]), False)


class UnchangedTest(unittest.TestCase):

    def test_the_value_is_as_before(self):
        for value in [[5, 1], [], {0: [1]}, {5, 1}, (5, [1, 2]), ([],), (5, 1, 2, 4), (0, 1, 0)]:
            before = copy.deepcopy(value)
            is_line(value)
            is_code(value)
            self.assertEqual(value, before)


if __name__ == "__main__":
    unittest.main()
