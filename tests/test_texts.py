"""Section 14 with point 13: show_line, read_line."""

import inspect
import itertools
import random
import unittest

from countahead.errors import NoLine, NoText
from countahead.texts import read_line, show_line
from tests.faults import FaultCase
from tests.plain import ALL_LINES, GREAT, NO_LINES, is_integer

# Words that are no numbers, or not written as they must be, or beyond the marks.
NO_MARK_WORDS = [
    "", "-", "--", "-0", "00", "01", "007", "-01", "-00", "--1", "1-", "1-1", "+1", "+0", "1.0", "1e3", "1_0", "0x1", "a",
    "x1", "1x", "1,", ",", "(1)", "True", "None", "1\n", "\n1", "\n", "1\t", "\t1", "\t",
    str(GREAT + 1), str(-GREAT - 1), "9" * 31, "-" + "9" * 31, "1" * 32, "-" + "1" * 32, "0" * 31, "0" * 32,
    "0" + str(GREAT), "1" * 4999, "0" * 4999, "-" + "1" * 4998, "\u0663", "\u00b2", "1\u00a0", "\uff11", "\u2212" + "1",
]

NO_LINE_TEXTS = NO_MARK_WORDS + [
    " ", "  ", " 5", "5 ", " 5 ", "3  5", "3   5", "3 5 ", " 3 5", "3\n5", "3 5\n", "\n3 5", "3\t5", "3,5", "3, 5",
    "(3, 5)", "[3 5]", "line 3 5", "3 -", "- 3", "3 -0", "-0 3", "3 - 5", "3 05", "3 5 x", "x 3 5", "3; 5",
    " ".join(["0"] * 61), " ".join(["1"] * 200), " ".join(["1"] * 2500), " " * 5000, "5 " * 60, " 5" * 60,
]

NO_STRINGS = [None, 0, 5, -1, True, False, 10 ** 99, b"3 5", b"", (), (3, 5), ("3", "5"), [3, 5], ["3 5"], {}, {"3": 5}]
NO_STRINGS += [{"3"}, frozenset(), object(), str, range(3), (((("3 5",),),),)]


class ExamplesTest(FaultCase):

    def test_show_line(self):
        self.assertEqual(show_line((3, -5, 3)), "3 -5 3")

    def test_read_line(self):
        self.assert_raises(NoText, read_line, "3  5")


class ThereAndBackTest(unittest.TestCase):

    def test_lines(self):
        for line in ALL_LINES:
            text = show_line(line)
            self.assertIs(type(text), str)
            self.assertEqual(text, str(line).strip("(,)").replace(", ", " "))
            found = read_line(text)
            self.assertEqual(found, line)
            self.assertIs(type(found), tuple)
            self.assertTrue(all(is_integer(mark) for mark in found))

    def test_negative_and_great_marks(self):
        choose = random.Random(61)
        for digits in range(1, 31):
            for _ in range(5):
                line = tuple(choose.randint(-10 ** digits, 10 ** digits) for _ in range(choose.randint(1, 60)))
                self.assertEqual(read_line(show_line(line)), line)

    def test_edges(self):
        for text, line in [
            ("0", (0,)), ("-1", (-1,)), ("10", (10,)), ("-10", (-10,)), ("0 0", (0, 0)), ("9 -9", (9, -9)),
            ("1" + "0" * 30, (GREAT,)), ("-1" + "0" * 30, (-GREAT,)), ("9" * 30, (GREAT - 1,)),
            (" ".join(["0"] * 60), (0,) * 60), (" ".join(["-1" + "0" * 30] * 60), (-GREAT,) * 60),
        ]:
            self.assertEqual(read_line(text), line)
            self.assertEqual(show_line(line), text)

    def test_a_text_that_is_read_is_the_text_of_the_line(self):
        # All texts of up to five of these signs: a text is read exactly if it is what the line is shown as.
        shown = {show_line(line): line for size in range(1, 4) for line in itertools.product(range(-11, 12), repeat=size)}
        read = 0
        for many in range(1, 6):
            for signs in itertools.product("-01 ", repeat=many):
                text = "".join(signs)
                try:
                    line = read_line(text)
                except NoText:
                    self.assertNotIn(text, shown)
                else:
                    read += 1
                    self.assertEqual(show_line(line), text)
        self.assertGreater(read, 50)


class FaultsTest(FaultCase):

    def test_no_line(self):
        for value in NO_LINES:
            self.assert_raises(NoLine, show_line, value)

    def test_no_text(self):
        for value in NO_LINE_TEXTS + NO_STRINGS:
            self.assert_raises(NoText, read_line, value)

    def test_a_wrong_word_at_any_place(self):
        for word in NO_MARK_WORDS:
            for words in [[word, "5"], ["5", word], ["5", word, "-7"]]:
                self.assert_raises(NoText, read_line, " ".join(words))

    def test_the_arguments_are_called_as_listed(self):
        self.assertEqual(str(inspect.signature(show_line)), "(line)")
        self.assertEqual(str(inspect.signature(read_line)), "(text)")


if __name__ == "__main__":
    unittest.main()
