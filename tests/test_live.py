"""Section 13: LiveLine."""

import inspect
import random
import unittest

from countahead.errors import Full, NoLine, NoMark, NoNumber, NoOperation, NoPerson, NoRounds, NoSize, Nothing
from countahead.live import LiveLine
from countahead.steps import final_row, is_still
from countahead.still import count_still
from tests.faults import FaultCase
from tests.models import NO_MARKS, NO_OPERATIONS, NO_PLAYED, PlainLive, drawn_operation, drawn_operations
from tests.models import is_plainly_still
from tests.plain import GREAT, LATE_STILL, NO_LINES, NO_PERSONS, is_integer, lines_of, plain_final, plain_round
from tests.plain import plain_rows, slow_line
from tests.walks import NO_NUMBERS, NO_SIZES, SIZES, STILL

LINES = [(0,), (-GREAT,), (5, 1), (5, 1, 2, 4), (0, 0, 2, 3), slow_line(60), (7,) * 59, tuple(range(60))]


def perform(live, operation):
    """Call the method that is written in a log."""
    return getattr(live, operation[0])(*operation[1:])


class ExamplesTest(unittest.TestCase):

    def test_live_line(self):
        live = LiveLine((5, 1, 2, 4))
        found = [live.line, live.final, live.stands, len(live), LiveLine.LIMIT]
        self.assertEqual(found, [(5, 1, 2, 4), (0, 0, 2, 3), False, 4, 60])

    def test_of(self):
        self.assertEqual(LiveLine.of(5, 1, 2, 4).line, (5, 1, 2, 4))

    def test_still(self):
        self.assertEqual(LiveLine.still(4, number=4).line, (0, 0, 2, 3))

    def test_round(self):
        live = LiveLine.of(5, 1, 2, 4)
        self.assertEqual([live.round(), live.line], [(0, 0, 1, 2), (0, 0, 1, 2)])

    def test_rounds(self):
        live = LiveLine.of(5, 1, 2, 4)
        self.assertIsNone(live.rounds(10 ** 30))
        self.assertEqual([live.line, live.stands], [(0, 0, 2, 3), True])

    def test_join(self):
        live = LiveLine.of(5, 1, 2, 4)
        self.assertIsNone(live.join(3))
        self.assertEqual(live.line, (5, 1, 2, 4, 3))

    def test_leave(self):
        live = LiveLine.of(5, 1, 2, 4)
        self.assertIsNone(live.leave(1))
        self.assertEqual(live.line, (5, 2, 4))

    def test_mark(self):
        live = LiveLine.of(5, 1, 2, 4)
        self.assertIsNone(live.mark(0, 0))
        self.assertEqual(live.final, (0, 1, 2, 3))

    def test_undo(self):
        live = LiveLine.of(5, 1, 2, 4)
        after = live.round()
        self.assertIsNone(live.undo())
        self.assertEqual([after, live.line], [(0, 0, 1, 2), (5, 1, 2, 4)])

    def test_log(self):
        live = LiveLine.of(5, 1, 2, 4)
        live.join(3)
        live.mark(0, 7)
        self.assertEqual(live.log(), [("join", 3), ("mark", 0, 7)])

    def test_preview(self):
        live = LiveLine.of(5, 1, 2, 4)
        found = [live.preview(("round",), ("leave", 0)), live.line, live.log()]
        self.assertEqual(found, [(0, 1, 2), (5, 1, 2, 4), []])

    def test_equality(self):
        self.assertEqual([LiveLine.of(2, 1) == LiveLine((2, 1)), LiveLine.of(2, 1) == (2, 1)], [True, False])


class LiveCase(FaultCase):

    def assert_is(self, live, plain):
        """The live line is as the plain one says, in all that can be asked."""
        line = plain.lines[-1]
        self.assertEqual(live.line, line)
        self.assertIs(type(live.line), tuple)
        self.assertEqual(live.final, plain_final(line))
        self.assertIs(live.stands, is_plainly_still(line))
        self.assertEqual(len(live), len(line))
        self.assertEqual(live.log(), plain.operations)
        self.assertTrue(live == LiveLine(line))

    def assert_refused(self, live, kind, function, *arguments, **named):
        """The call raises the error and has no effect on the live line."""
        before = [live.line, live.final, live.stands, len(live), live.log()]
        self.assert_raises(kind, function, *arguments, **named)
        self.assertEqual([live.line, live.final, live.stands, len(live), live.log()], before)


class CreationTest(LiveCase):

    def test_lines(self):
        choose = random.Random(71)
        lines = list(LINES)
        for size in [1, 2, 7, 30, 60]:
            lines.extend(lines_of(size, choose))
        for line in lines:
            for live in [LiveLine(line), LiveLine.of(*line)]:
                self.assertIs(type(live), LiveLine)
                self.assert_is(live, PlainLive(line))
                self.assertEqual([live.final, live.stands], [final_row(line), is_still(line)])

    def test_still_rows(self):
        for size in SIZES:
            self.assertEqual(LiveLine.still(size).line, (0,) * size)
            for number, row in enumerate(STILL[size]):
                live = LiveLine.still(size, number=number)
                self.assertIs(type(live), LiveLine)
                self.assert_is(live, PlainLive(row))
                self.assertIs(live.stands, True)
        self.assertEqual(LiveLine.still(60).line, (0,) * 60)
        self.assertEqual(LiveLine.still(60, number=count_still(60) - 1).line, tuple(range(60)))

    def test_limit(self):
        self.assertEqual([LiveLine.LIMIT, LiveLine.of(1).LIMIT], [60, 60])
        self.assertTrue(is_integer(LiveLine.LIMIT))

    def test_no_line(self):
        for value in NO_LINES:
            self.assert_raises(NoLine, LiveLine, value)
            if isinstance(value, tuple):
                self.assert_raises(NoLine, LiveLine.of, *value)
        for marks in [(), (None,), ((1, 2),), ([1, 2],), (1, True), (0,) * 61, ("5 1",)]:
            self.assert_raises(NoLine, LiveLine.of, *marks)

    def test_no_size_and_no_number(self):
        for size in NO_SIZES:
            self.assert_raises(NoSize, LiveLine.still, size)
            for number in NO_NUMBERS:
                self.assert_raises(NoSize, LiveLine.still, size, number=number)
        for size in [1, 4, 60]:
            for number in NO_NUMBERS + [count_still(size)]:
                self.assert_raises(NoNumber, LiveLine.still, size, number=number)

    def test_the_arguments_are_called_as_listed(self):
        wanted = [
            (LiveLine, "(line)"), (LiveLine.of, "(*marks)"), (LiveLine.still, "(size, *, number=0)"),
            (LiveLine.round, "(self)"), (LiveLine.rounds, "(self, number)"), (LiveLine.join, "(self, mark)"),
            (LiveLine.leave, "(self, person)"), (LiveLine.mark, "(self, person, mark)"), (LiveLine.undo, "(self)"),
            (LiveLine.log, "(self)"), (LiveLine.preview, "(self, *operations)"),
        ]
        for function, text in wanted:
            self.assertEqual(str(inspect.signature(function)), text, function)

    def test_all_stands_in_the_class_itself(self):
        for name in ["of", "still", "round", "rounds", "join", "leave", "mark", "undo", "log", "preview"]:
            self.assertIn(name, vars(LiveLine))
        for name in ["line", "final", "stands"]:
            self.assertIsInstance(vars(LiveLine)[name], property)
        self.assertIn("__len__", vars(LiveLine))
        self.assertIn("__eq__", vars(LiveLine))


class OperationsTest(LiveCase):

    def test_one_operation(self):
        operations = [
            ("round",), ("rounds", 1), ("rounds", 2), ("rounds", 58), ("rounds", 59), ("rounds", 60), ("rounds", GREAT),
            ("join", 0), ("join", -GREAT), ("join", GREAT), ("leave", 0), ("leave", -1), ("mark", 0, 3), ("mark", -1, GREAT),
            ("mark", 0, -GREAT),
        ]
        for line in LINES:
            for operation in operations:
                # The place -1 stands for the last person.
                if operation[0] in ("leave", "mark") and operation[1] == -1:
                    operation = (operation[0], len(line) - 1, *operation[2:])
                if operation[0] == "leave" and len(line) == 1 or operation[0] == "join" and len(line) == 60:
                    continue
                live = LiveLine(line)
                plain = PlainLive(line)
                plain.perform(operation)
                found = perform(live, operation)
                self.assertEqual(found, live.line if operation == ("round",) else None)
                self.assert_is(live, plain)
                self.assertIsNone(live.undo())
                self.assert_is(live, PlainLive(line))

    def test_rounds_one_by_one(self):
        for line in [LATE_STILL, (5, 1, 2, 4), (0,), slow_line(7)]:
            live = LiveLine(line)
            rows = plain_rows(line)
            for row in rows[1:]:
                self.assertEqual(live.round(), row)
                self.assertEqual(live.line, row)
            self.assertEqual(live.log(), [("round",)] * (len(rows) - 1))
            for row in reversed(rows[:-1]):
                live.undo()
                self.assertEqual(live.line, row)
            for rounds in range(1, len(rows)):
                once = LiveLine(line)
                once.rounds(rounds)
                self.assertEqual(once.line, rows[rounds])

    def test_a_round_on_a_still_row_is_an_operation(self):
        live = LiveLine.of(0, 0, 2, 3)
        self.assertEqual(live.round(), (0, 0, 2, 3))
        live.rounds(5)
        live.mark(0, 0)
        self.assertEqual(live.log(), [("round",), ("rounds", 5), ("mark", 0, 0)])
        for _ in range(3):
            live.undo()
        self.assert_refused(live, Nothing, live.undo)

    def test_drawn_operations_with_undo_and_preview(self):
        choose = random.Random(72)
        for line in LINES * 3:
            live = LiveLine(line)
            plain = PlainLive(line)
            for _ in range(60):
                what = choose.randrange(10)
                if what < 6:
                    operation = drawn_operation(live.line, choose)
                    plain.perform(operation)
                    perform(live, operation)
                elif what < 8 and plain.operations:
                    plain.undo()
                    live.undo()
                elif what < 9:
                    operations, wanted = drawn_operations(plain, choose.randint(0, 20), choose)
                    self.assertEqual(live.preview(*operations), wanted)
                else:
                    self.refuse_something(live, choose)
                self.assert_is(live, plain)
            while plain.operations:
                plain.undo()
                live.undo()
                self.assert_is(live, plain)
            self.assert_refused(live, Nothing, live.undo)

    def refuse_something(self, live, choose):
        last = len(live) - 1
        calls = [
            (NoRounds, live.rounds, 0), (NoMark, live.join, GREAT + 1), (NoPerson, live.leave, last + 1),
            (NoPerson, live.leave, -1), (NoPerson, live.mark, last + 1, 0), (NoMark, live.mark, last, None),
            (NoOperation, live.preview, ("round",), ("undo",)), (NoRounds, live.preview, ("round",), ("rounds", 0)),
        ]
        kind, function, *arguments = choose.choice(calls)
        self.assert_refused(live, kind, function, *arguments)

    def test_two_hundred_operations(self):
        live = LiveLine.of(5, 1, 2, 4)
        for number in range(100):
            live.mark(number % 4, number)
        self.assertEqual(live.line, (96, 97, 98, 99))
        self.assertEqual(len(live.log()), 100)
        for _ in range(100):
            live.undo()
        self.assert_is(live, PlainLive((5, 1, 2, 4)))

    def test_a_log_can_be_performed_again(self):
        choose = random.Random(73)
        for line in LINES:
            live = LiveLine(line)
            for _ in range(20):
                perform(live, drawn_operation(live.line, choose))
            again = LiveLine(line)
            for operation in live.log():
                perform(again, operation)
            self.assertEqual([again.line, again.log()], [live.line, live.log()])
            self.assertEqual(LiveLine(line).preview(*live.log()), live.line)

    def test_an_operation_after_an_undo(self):
        live = LiveLine.of(5, 1, 2, 4)
        live.join(3)
        live.leave(0)
        live.undo()
        live.mark(4, 9)
        self.assertEqual([live.line, live.log()], [(5, 1, 2, 4, 9), [("join", 3), ("mark", 4, 9)]])
        live.undo()
        live.undo()
        self.assertEqual([live.line, live.log()], [(5, 1, 2, 4), []])

    def test_the_log_is_a_new_list(self):
        live = LiveLine.of(5, 1, 2, 4)
        live.join(3)
        log = live.log()
        log.clear()
        self.assertIs(type(live.log()), list)
        self.assertEqual(live.log(), [("join", 3)])
        live.log().append(("round",))
        live.undo()
        self.assertEqual([live.line, live.log(), log], [(5, 1, 2, 4), [], []])

    def test_live_lines_do_not_share_anything(self):
        line = (5, 1, 2, 4)
        one = LiveLine(line)
        other = LiveLine(line)
        one.join(3)
        one.round()
        self.assert_is(other, PlainLive(line))
        self.assertEqual(line, (5, 1, 2, 4))


class EdgesTest(LiveCase):

    def test_the_sixtieth_and_the_sixty_first_person(self):
        live = LiveLine((7,) * 59)
        live.join(3)
        self.assertEqual(len(live), 60)
        self.assert_refused(live, Full, live.join, 3)
        live.undo()
        live.join(4)
        self.assert_refused(live, Full, live.join, 4)
        live.leave(0)
        live.join(GREAT)
        self.assertEqual(live.line, (7,) * 58 + (4, GREAT))

    def test_the_only_person_leaves(self):
        live = LiveLine.of(5, 1)
        live.leave(0)
        self.assertEqual(live.line, (1,))
        self.assert_refused(live, NoPerson, live.leave, 0)
        self.assert_refused(live, NoPerson, live.leave, 1)
        self.assert_refused(live, NoPerson, live.leave, None)
        live.join(2)
        live.leave(1)
        self.assertEqual(live.line, (1,))

    def test_ends_of_the_marks(self):
        live = LiveLine.of(0)
        live.join(GREAT)
        live.join(-GREAT)
        live.mark(0, -GREAT)
        live.mark(2, GREAT)
        self.assertEqual(live.line, (-GREAT, GREAT, GREAT))
        for mark in [GREAT + 1, -GREAT - 1]:
            self.assert_refused(live, NoMark, live.join, mark)
            self.assert_refused(live, NoMark, live.mark, 0, mark)

    def test_ends_of_the_rounds(self):
        live = LiveLine(slow_line(60))
        live.rounds(1)
        self.assertEqual(live.line, plain_round(slow_line(60)))
        live.rounds(GREAT)
        self.assertEqual(live.line, plain_final(slow_line(60)))
        for number in [0, -1, GREAT + 1]:
            self.assert_refused(live, NoRounds, live.rounds, number)


class FaultsTest(LiveCase):

    def test_no_rounds(self):
        for line in LINES:
            live = LiveLine(line)
            for value in NO_PLAYED:
                self.assert_refused(live, NoRounds, live.rounds, value)

    def test_no_mark(self):
        for line in LINES:
            live = LiveLine(line)
            for value in NO_MARKS:
                # Also where there is no room: the mark is checked ahead of that.
                self.assert_refused(live, NoMark, live.join, value)
                self.assert_refused(live, NoMark, live.mark, 0, value)
                self.assert_refused(live, NoMark, live.mark, len(line) - 1, value)

    def test_full(self):
        for line in [slow_line(60), tuple(range(60))]:
            live = LiveLine(line)
            for mark in [0, 1, -GREAT, GREAT]:
                self.assert_refused(live, Full, live.join, mark)

    def test_no_person(self):
        for line in LINES:
            live = LiveLine(line)
            for value in NO_PERSONS + [len(line), -len(line)]:
                self.assert_refused(live, NoPerson, live.leave, value)
                self.assert_refused(live, NoPerson, live.mark, value, 0)
                for mark in NO_MARKS:
                    self.assert_refused(live, NoPerson, live.mark, value, mark)

    def test_nothing(self):
        for line in LINES:
            live = LiveLine(line)
            self.assert_refused(live, Nothing, live.undo)
            live.round()
            live.undo()
            self.assert_refused(live, Nothing, live.undo)


class PreviewTest(LiveCase):

    def test_no_operations(self):
        for line in LINES:
            self.assertEqual(LiveLine(line).preview(), line)

    def test_each_form(self):
        for operation in [("round",), ("rounds", GREAT), ("join", 7), ("leave", 1), ("mark", 1, 9)]:
            live = LiveLine.of(5, 1, 2, 4)
            live.mark(0, 6)
            plain = PlainLive((6, 1, 2, 4))
            self.assertEqual(live.preview(operation), plain.after(operation))
            self.assertIs(type(live.preview(operation)), tuple)
            self.assertEqual([live.line, live.log()], [(6, 1, 2, 4), [("mark", 0, 6)]])

    def test_no_operation(self):
        live = LiveLine.of(5, 1, 2, 4)
        live.join(3)
        for value in NO_OPERATIONS:
            self.assert_refused(live, NoOperation, live.preview, value)
            self.assert_refused(live, NoOperation, live.preview, ("round",), value)
            self.assert_refused(live, NoOperation, live.preview, value, ("round",))

    def test_the_forms_are_checked_ahead_of_what_the_operations_raise(self):
        live = LiveLine.of(5, 1, 2, 4)
        wrong = [("rounds", 0), ("join", None), ("leave", 4), ("mark", 4, 0), ("mark", 0, []), ("rounds", {}), ("leave", [])]
        for value in NO_OPERATIONS:
            for operation in wrong:
                self.assert_refused(live, NoOperation, live.preview, operation, value)
                self.assert_refused(live, NoOperation, live.preview, value, operation)
        self.assert_refused(live, NoOperation, live.preview, *[("join", 1)] * 19, ("undo",))

    def test_whatever_the_items_behind_the_first_one_are(self):
        live = LiveLine.of(5, 1, 2, 4)
        for value in NO_PLAYED:
            self.assert_refused(live, NoRounds, live.preview, ("rounds", value))
        for value in NO_MARKS:
            self.assert_refused(live, NoMark, live.preview, ("join", value))
            self.assert_refused(live, NoMark, live.preview, ("mark", 0, value))
        for value in NO_PERSONS:
            self.assert_refused(live, NoPerson, live.preview, ("leave", value))
            for mark in NO_MARKS:
                self.assert_refused(live, NoPerson, live.preview, ("mark", value, mark))

    def test_the_first_operation_that_fails_decides(self):
        live = LiveLine.of(5, 1)
        self.assert_refused(live, NoPerson, live.preview, ("leave", 2), ("join", None))
        self.assert_refused(live, NoMark, live.preview, ("join", None), ("leave", 2))
        self.assert_refused(live, NoRounds, live.preview, ("join", 3), ("rounds", 0), ("leave", 9))
        self.assertEqual(live.preview(("join", 3), ("leave", 2)), (5, 1))
        self.assertEqual(live.preview(("leave", 0)), (1,))
        self.assert_refused(live, NoPerson, live.preview, ("leave", 0), ("leave", 0), ("rounds", 0))

    def test_full(self):
        live = LiveLine((7,) * 59)
        self.assertEqual(live.preview(("join", 1)), (7,) * 59 + (1,))
        self.assert_refused(live, Full, live.preview, ("join", 1), ("join", 2))
        self.assert_refused(live, NoMark, live.preview, ("join", 1), ("join", True))
        self.assertEqual(live.preview(("join", 1), ("leave", 0), ("join", 2)), (7,) * 58 + (1, 2))

    def test_undo_after_a_preview(self):
        live = LiveLine.of(5, 1, 2, 4)
        live.preview(("round",), ("join", 3))
        self.assert_refused(live, Nothing, live.undo)
        live.join(3)
        live.preview(("round",), ("leave", 0))
        live.undo()
        self.assertEqual([live.line, live.log()], [(5, 1, 2, 4), []])


class EqualityTest(unittest.TestCase):

    def test_equal_lines(self):
        one = LiveLine.of(5, 1, 2, 4)
        other = LiveLine((5, 1, 2, 4, 3))
        self.assertIs(one == other, False)
        self.assertIs(one != other, True)
        one.join(3)
        self.assertIs(one == other, True)
        self.assertIs(one != other, False)
        other.round()
        other.undo()
        self.assertIs(one == other, True)
        one.mark(0, 6)
        self.assertIs(one == other, False)

    def test_other_values(self):
        live = LiveLine.of(2, 1)
        for value in NO_LINES + [(2, 1), [2, 1], "2 1", 2, LiveLine, None]:
            self.assertIs(live == value, False)
            self.assertIs(value == live, False)
            self.assertIs(live != value, True)

    def test_lengths(self):
        for size in range(1, 61):
            self.assertEqual(len(LiveLine((0,) * size)), size)


if __name__ == "__main__":
    unittest.main()
