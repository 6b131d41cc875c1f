"""Section 15: Console."""

import inspect
import itertools
import random
import unittest

from countahead.console import Console
from countahead.errors import Full, NoMark, NoPerson, NoRounds, NoRow, NoText, NotStill, Nothing
from countahead.live import LiveLine
from tests.faults import FaultCase
from tests.models import PlainLive, drawn_operation, is_plainly_still
from tests.plain import GREAT, plain_final, plain_needed, plain_rows, slow_line
from tests.test_texts import NO_LINE_TEXTS, NO_STRINGS
from tests.walks import STILL, plain_brackets, plain_count_orders, plain_end

WORDS = ["round", "undo", "show", "final", "needed", "orders", "brackets", "number"]
WITH_ROUNDS = ["rounds", "after"]
DIGITS_31 = "9" * 31

# Rows of the forms, all of which need a live line.
ROWS = WORDS + [
    "rounds 1", "rounds 0", "rounds " + str(GREAT), "rounds " + DIGITS_31, "after 0", "after 7", "after " + DIGITS_31,
    "join 0", "join 5", "join -5", "join " + str(GREAT), "join -" + DIGITS_31, "join " + DIGITS_31,
    "leave 0", "leave 7", "leave " + DIGITS_31, "mark 0 0", "mark 3 -7", "mark 0 -" + DIGITS_31, "certain 0 1",
    "certain 1 0", "certain 0 0", "certain " + DIGITS_31 + " 0",
]

# Words that stand in no row for N or P.
NO_COUNTS = [
    "", "-", "-0", "-1", "-5", "00", "01", "007", "+1", "1.0", "1e3", "1_0", "0x1", "a", "N", "P", "None", "True", "1,",
    "1" * 32, "0" * 31, "0" + "9" * 31, "1" + "0" * 31, "1" * 4900, "1\t", "\t1", "(1)", "\u0663", "\u00b2",
]

# Words that stand in no row for M.
NO_MARK_WORDS = [
    "", "-", "--1", "-0", "-00", "00", "01", "-01", "+1", "1.0", "1e3", "1_0", "0x1", "a", "M", "None", "1-", "1" * 32,
    "-" + "1" * 32, "0" * 31, "-0" + "1" * 30, "1" * 4900, "1\t", "\u0663", "\u00b2", "\u2212" + "1",
]

NO_ROWS = NO_STRINGS + [
    "", " ", "  ", "\n", "\t", "-", "0", "5", "5 1 2 4", "line", "Line 5", "LINE 5", " line 5", "line\t5", "lines 5",
    "line5", "liner 5", "of 5 1", "still 4", "still 4 4", "log", "preview", "help", "quit", "limit", "stands", "len",
    "Round", "ROUND", "rOund", "rounds", "rounds 1 1", "rounds1", "after", "after 1 1", "after1", "join", "join 1 1",
    "join1", "leave", "leave 0 0", "mark", "mark 0", "mark 0 1 2", "mark0 1", "certain", "certain 0", "certain 0 1 2",
    "round 1", "undo 1", "show 1", "final 1", "needed 1", "orders 1", "brackets 1", "brackets ()", "number 1",
    "round round", "round;", "roundround", "round,show", "un do", "join -", "join - 5", "mark 0 - 5", "mark -0 5",
    "mark -1 5", "leave -1", "leave -0", "rounds -1", "after -1", "certain -1 0", "certain 0 -1", "certain 0, 1",
    "certain (0, 1)", "\u0663", "round\u00a0", "x" * 5000, "round " * 800,
]


def empty_words(row):
    """The row with a further space at each place where one can stand."""
    found = [" " + row, row + " ", "  " + row, row + "  ", " " + row + " "]
    for place, sign in enumerate(row):
        if sign == " ":
            found.append(row[:place] + " " + row[place:])
    return found


def opened(text):
    console = Console()
    assert console.say("line " + text) == "ok"
    return console


def text_of(line):
    return " ".join(str(mark) for mark in line)


def certain_of(row, person, other):
    """By the stretches, as section 6 says of them."""
    if row[person] <= other < plain_end(row, person):
        return "<=" if other < person and row[other] == row[person] else "<"
    if row[other] <= person < plain_end(row, other):
        return ">=" if person < other and row[other] == row[person] else ">"
    return "none"


class ExamplesTest(unittest.TestCase):

    def test_the_example(self):
        console = Console()
        self.assertEqual(console.say("line 5 1 2 4"), "ok")
        found = [console.say(row) for row in ["needed", "certain 0 1", "round", "final", "orders", "brackets"]]
        self.assertEqual(found, ["2", ">=", "0 0 1 2", "0 0 2 3", "3", "()((()))"])


class ConsoleCase(FaultCase):

    def assert_refused(self, console, kind, row):
        """The row raises the error and changes nothing."""
        before = self.state_of(console)
        self.assert_raises(kind, console.say, row)
        self.assertEqual(self.state_of(console), before, row)

    def state_of(self, console):
        """What tells of the live line, or None if there is none."""
        try:
            return console.say("show"), console.say("final"), console.say("needed")
        except NoRow:
            return None

    def assert_says(self, console, row, wanted):
        found = console.say(row)
        self.assertIs(type(found), str)
        self.assertEqual(found, wanted, row)


class RowsTest(ConsoleCase):

    def test_rows_that_change(self):
        console = Console()
        for row, wanted, line in [
            ("line 5 1 2 4", "ok", "5 1 2 4"), ("round", "0 0 1 2", "0 0 1 2"), ("undo", "ok", "5 1 2 4"),
            ("rounds 2", "ok", "0 0 2 3"), ("join 3", "ok", "0 0 2 3 3"), ("join -7", "ok", "0 0 2 3 3 -7"),
            ("leave 0", "ok", "0 2 3 3 -7"), ("mark 0 9", "ok", "9 2 3 3 -7"), ("mark 4 -9", "ok", "9 2 3 3 -9"),
            ("undo", "ok", "9 2 3 3 -7"), ("undo", "ok", "0 2 3 3 -7"), ("rounds " + str(GREAT), "ok", "0 1 2 2 0"),
            ("line 7", "ok", "7"), ("round", "0", "0"), ("line -3 -4", "ok", "-3 -4"),
        ]:
            self.assert_says(console, row, wanted)
            self.assert_says(console, "show", line)

    def test_rows_that_tell(self):
        console = opened("5 1 2 4")
        for row, wanted in [
            ("show", "5 1 2 4"), ("final", "0 0 2 3"), ("after 0", "5 1 2 4"), ("after 1", "0 0 1 2"),
            ("after 2", "0 0 2 3"), ("after " + str(GREAT), "0 0 2 3"), ("needed", "2"), ("orders", "3"),
            ("brackets", "()((()))"), ("certain 0 1", ">="), ("certain 1 0", "<="), ("certain 1 3", "<"),
            ("certain 3 1", ">"), ("certain 0 2", "none"), ("show", "5 1 2 4"),
        ]:
            self.assert_says(console, row, wanted)
        self.assert_refused(console, Nothing, "undo")
        self.assert_says(opened("0 0 2 3"), "number", "4")

    def test_the_number_of_all_still_rows_of_few_persons(self):
        for size in [1, 2, 3, 4, 5]:
            for number, row in enumerate(STILL[size]):
                self.assert_says(opened(text_of(row)), "number", str(number))

    def test_line_makes_a_new_live_line(self):
        console = opened("5 1")
        console.say("round")
        console.say("line 5 1")
        self.assert_refused(console, Nothing, "undo")
        self.assert_says(console, "show", "5 1")

    def test_consoles_do_not_share_anything(self):
        one = opened("5 1")
        other = Console()
        self.assert_refused(other, NoRow, "show")
        other.say("line 7 8")
        other.say("round")
        self.assert_says(one, "show", "5 1")
        self.assert_refused(one, Nothing, "undo")

    def test_drawn_sessions(self):
        choose = random.Random(81)
        for line in [(5, 1, 2, 4), (0,), slow_line(59), slow_line(60), tuple(range(30)), (GREAT, -GREAT)] * 3:
            console = opened(text_of(line))
            plain = PlainLive(line)
            for _ in range(40):
                if choose.randrange(4) == 0 and plain.operations:
                    plain.undo()
                    self.assert_says(console, "undo", "ok")
                elif choose.randrange(6) == 0:
                    self.assert_refused(console, NoRow, choose.choice(NO_ROWS))
                else:
                    operation = drawn_operation(plain.lines[-1], choose)
                    plain.perform(operation)
                    wanted = text_of(plain.lines[-1]) if operation == ("round",) else "ok"
                    self.assert_says(console, " ".join(str(item) for item in operation), wanted)
                self.check_answers(console, plain.lines[-1], choose)
            for _ in plain.operations:
                console.say("undo")
            self.assert_says(console, "show", text_of(line))
            self.assert_refused(console, Nothing, "undo")

    def check_answers(self, console, line, choose):
        final = plain_final(line)
        rows = plain_rows(line)
        self.assert_says(console, "show", text_of(line))
        self.assert_says(console, "final", text_of(final))
        rounds = choose.randrange(len(rows))
        self.assert_says(console, f"after {rounds}", text_of(rows[rounds]))
        self.assert_says(console, "needed", str(plain_needed(rows)))
        self.assert_says(console, "orders", str(plain_count_orders(final)))
        self.assert_says(console, "brackets", plain_brackets(final))
        if len(line) > 1:
            person, other = choose.sample(range(len(line)), 2)
            self.assert_says(console, f"certain {person} {other}", certain_of(final, person, other))
        if is_plainly_still(line):
            self.assertEqual(LiveLine.still(len(line), number=int(console.say("number"))).line, line)
        else:
            self.assert_refused(console, NotStill, "number")

    def test_sixty_persons(self):
        console = opened(text_of(range(60)))
        self.assert_says(console, "number", "1583850964596120042686772779038895")
        self.assert_says(console, "brackets", "(" * 60 + ")" * 60)
        self.assert_says(console, "orders", "1")
        self.assert_says(console, "certain 59 0", ">")
        self.assert_says(console, "after " + str(GREAT), text_of(range(60)))
        console.say("line " + text_of(slow_line(60)))
        self.assert_says(console, "needed", "59")
        self.assert_says(console, "rounds " + str(GREAT), "ok")
        self.assert_says(console, "needed", "0")

    def test_relations_of_all_pairs(self):
        for row in STILL[5]:
            console = opened(text_of(row))
            for person, other in itertools.permutations(range(5), 2):
                self.assert_says(console, f"certain {person} {other}", certain_of(row, person, other))


class NoRowTest(ConsoleCase):

    def test_without_a_live_line(self):
        console = Console()
        for row in ROWS + NO_ROWS:
            self.assert_refused(console, NoRow, row)

    def test_rows_of_no_form(self):
        console = opened("5 1 2 4")
        console.say("join 3")
        for row in NO_ROWS:
            self.assert_refused(console, NoRow, row)
        console.say("undo")
        self.assert_refused(console, Nothing, "undo")

    def test_wrong_words_for_numbers(self):
        console = opened("5 1 2 4")
        for word in NO_COUNTS:
            for row in [f"rounds {word}", f"after {word}", f"leave {word}", f"mark {word} 5", f"certain {word} 0",
                        f"certain 0 {word}"]:
                self.assert_refused(console, NoRow, row)
        for word in NO_MARK_WORDS:
            for row in [f"join {word}", f"mark 0 {word}"]:
                self.assert_refused(console, NoRow, row)

    def test_empty_words(self):
        console = opened("5 1 2 4")
        for row in ROWS:
            for wrong in empty_words(row):
                self.assert_refused(console, NoRow, wrong)

    def test_newlines(self):
        for console in [Console(), opened("5 1 2 4")]:
            for row in ROWS + ["line 5 1", "line x", "line ", "line"]:
                for wrong in [row + "\n", "\n" + row, row + "\n" + row, row.replace(" ", "\n"), row[:2] + "\n" + row[2:]]:
                    if "\n" in wrong:
                        self.assert_refused(console, NoRow, wrong)
            for wrong in ["line 5\n1", "line 5 1\n", "line \n", "line\n5", "line 5 \n 1"]:
                self.assert_refused(console, NoRow, wrong)

    def test_other_words_for_rows(self):
        console = opened("5 1 2 4")
        for word in WORDS + WITH_ROUNDS + ["join", "leave", "mark", "certain", "line"]:
            for wrong in [word.upper(), word.title(), word + "s 1 1 1", word[:-1], "x" + word, word + "x", word + "\t"]:
                if wrong not in ("round", "line "):
                    self.assert_refused(console, NoRow, wrong)


class NoTextTest(ConsoleCase):

    def test_line_with_a_wrong_text(self):
        for console in [Console(), opened("5 1 2 4")]:
            for text in NO_LINE_TEXTS:
                wanted = NoRow if "\n" in text else NoText
                self.assert_refused(console, wanted, "line " + text)

    def test_line_with_and_without_a_space(self):
        for console in [Console(), opened("5 1 2 4")]:
            self.assert_refused(console, NoRow, "line")
            self.assert_refused(console, NoText, "line ")
            self.assert_refused(console, NoText, "line  ")
            self.assert_refused(console, NoText, "line  5")
            self.assert_refused(console, NoText, "line 5 ")
            self.assert_refused(console, NoText, "line 5  1")
            self.assert_refused(console, NoText, "line show")
            self.assert_refused(console, NoText, "line line 5")
            self.assert_refused(console, NoText, "line -0")
            self.assert_refused(console, NoText, "line " + DIGITS_31)
            self.assert_refused(console, NoRow, " line 5")

    def test_a_wrong_text_keeps_the_live_line_and_its_log(self):
        console = opened("5 1 2 4")
        console.say("round")
        self.assert_refused(console, NoText, "line 5 x")
        self.assert_says(console, "undo", "ok")
        self.assert_says(console, "show", "5 1 2 4")

    def test_ends(self):
        console = Console()
        self.assert_says(console, "line " + text_of([GREAT, -GREAT, 0]), "ok")
        self.assert_says(console, "show", text_of([GREAT, -GREAT, 0]))
        self.assert_says(console, "line " + " ".join(["0"] * 60), "ok")
        self.assert_refused(console, NoText, "line " + " ".join(["0"] * 61))


class ErrorsOfFunctionsTest(ConsoleCase):

    def test_rounds(self):
        console = opened("5 1 2 4")
        for number in [GREAT + 1, 10 ** 31 - 1]:
            self.assert_refused(console, NoRounds, f"rounds {number}")
            self.assert_refused(console, NoRounds, f"after {number}")
        self.assert_refused(console, NoRounds, "rounds 0")
        self.assert_refused(console, NoRow, f"rounds {10 ** 31}")
        self.assert_refused(console, NoRow, f"after {10 ** 31}")

    def test_marks(self):
        console = opened("5 1 2 4")
        for mark in [GREAT + 1, -GREAT - 1, 10 ** 31 - 1, 1 - 10 ** 31]:
            self.assert_refused(console, NoMark, f"join {mark}")
            self.assert_refused(console, NoMark, f"mark 0 {mark}")
            self.assert_refused(console, NoPerson, f"mark 4 {mark}")
        for mark in [10 ** 31, -10 ** 31]:
            self.assert_refused(console, NoRow, f"join {mark}")
            self.assert_refused(console, NoRow, f"mark 0 {mark}")

    def test_persons(self):
        console = opened("5 1 2 4")
        for person in [4, 5, 60, GREAT, 10 ** 31 - 1]:
            for row in [f"leave {person}", f"mark {person} 0", f"certain {person} 0", f"certain 0 {person}"]:
                self.assert_refused(console, NoPerson, row)
        for person in range(4):
            self.assert_refused(console, NoPerson, f"certain {person} {person}")
        self.assert_refused(console, NoRow, f"leave {10 ** 31}")
        self.assert_refused(opened("5"), NoPerson, "leave 0")
        self.assert_refused(opened("5"), NoPerson, "certain 0 0")

    def test_full(self):
        console = opened(" ".join(["0"] * 59))
        self.assert_says(console, "join 1", "ok")
        self.assert_refused(console, Full, "join 1")
        self.assert_refused(console, NoMark, f"join {GREAT + 1}")

    def test_nothing_and_not_still(self):
        console = opened("5 1 2 4")
        self.assert_refused(console, Nothing, "undo")
        self.assert_refused(console, NotStill, "number")
        console.say("rounds 2")
        self.assert_says(console, "number", "4")
        console.say("undo")
        self.assert_refused(console, Nothing, "undo")

    def test_an_error_is_not_put_into_the_log(self):
        console = opened("5 1 2 4")
        console.say("join 7")
        for row, kind in [("rounds 0", NoRounds), ("leave 9", NoPerson), (f"join {GREAT + 1}", NoMark), ("x", NoRow)]:
            self.assert_refused(console, kind, row)
        console.say("undo")
        self.assert_says(console, "show", "5 1 2 4")
        self.assert_refused(console, Nothing, "undo")

    def test_the_arguments_are_called_as_listed(self):
        self.assertEqual(str(inspect.signature(Console)), "()")
        self.assertEqual(str(inspect.signature(Console.say)), "(self, row)")
        self.assertIn("say", vars(Console))


if __name__ == "__main__":
    unittest.main()
