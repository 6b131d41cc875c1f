"""Point 2 over the whole program, and that the modules agree with one another."""

import itertools
import math
import random
import unittest

from countahead.before import count_before, least_before, nth_before, number_before
from countahead.console import Console
from countahead.forests import brackets, depths, read_brackets
from countahead.live import LiveLine
from countahead.marks import count_marks, greatest_marks, least_below
from countahead.orders import count_orders, nth_order, order_number, order_of
from countahead.reading import certain_pairs, relation_after, relation_in
from countahead.rows import counted, is_code, is_line, ranks, row_after, rows_of
from countahead.steps import final_row, is_still, last_smaller, meet, person_rounds, rounds_needed
from countahead.still import count_still, nth_still, still_number
from countahead.texts import read_line, show_line
from countahead.weights import is_weights, weighted_after, weighted_final, weighted_needed
from tests.models import drawn_operation
from tests.plain import ALL_LINES, GREAT, lines_of, plain_last, plain_round
from tests.walks import CODES, ORDERS, SIZES, STILL

MOST = 10 ** 28


def drawn_lines():
    choose = random.Random(91)
    lines = []
    for size in [1, 2, 3, 5, 8, 20, 40, 59, 60]:
        lines.extend(lines_of(size, choose))
    return lines


DRAWN = drawn_lines()


class PointTwoTest(unittest.TestCase):

    def test_a_after_so_many_rounds_nothing_changes(self):
        for line in ALL_LINES:
            size = len(line)
            row = row_after(line, rounds=max(1, size - 1))
            self.assertEqual(plain_round(row), row)
            self.assertEqual(row_after(row), row)
            self.assertIs(is_still(row), True)
            self.assertLessEqual(rounds_needed(line), max(1, size - 1))
            for person, mark in enumerate(row):
                last = plain_last(line, person)
                self.assertEqual(mark, 0 if last is None else last + 1)
                self.assertEqual(last_smaller(line, person), last)

    def test_b_the_number_of_rows_that_a_round_does_not_change(self):
        for size in range(1, 61):
            self.assertEqual(count_still(size), math.comb(2 * size, size) // (size + 1))
        for size in SIZES:
            rows = [code for code in CODES[size] if row_after(code) == code]
            self.assertEqual(rows, [nth_still(size, number) for number in range(count_still(size))])

    def test_c_one_round_leads_from_the_orders_to_the_codes(self):
        for size in SIZES:
            self.assertEqual(sorted(row_after(order) for order in ORDERS[size]), CODES[size])
            self.assertEqual(len(CODES[size]), math.factorial(size))
            for order in ORDERS[size]:
                self.assertEqual(order_of(row_after(order)), order)

    def test_d_between_the_rounds_and_the_final_mark(self):
        for line in DRAWN:
            final = final_row(line)
            for rounds, row in enumerate(rows_of(line)):
                if rounds > 0:
                    for mark, last in zip(row, final):
                        self.assertLessEqual(min(rounds, last), mark)
                        self.assertLessEqual(mark, last)

    def test_e_the_same_persons_decide_with_weights(self):
        choose = random.Random(92)
        for line in DRAWN:
            weights = tuple(choose.randint(1, MOST) for _ in line)
            final = final_row(line)
            self.assertEqual(weighted_final(line, weights), tuple(sum(weights[:many]) for many in final))
            self.assertEqual(final_row(weighted_after(line, weights)), final)


class AgreementTest(unittest.TestCase):

    def test_weighted_rounds_with_all_weights_one_are_rounds(self):
        for line in DRAWN + ALL_LINES[::9]:
            ones = (1,) * len(line)
            self.assertIs(is_weights(line, ones), True)
            for rounds in [0, 1, 2, 3, len(line) - 2, len(line) - 1, len(line), GREAT]:
                if rounds >= 0:
                    found = weighted_after(line, ones, rounds=rounds)
                    self.assertEqual(found, row_after(line, rounds=rounds), (line, rounds))
            self.assertEqual(weighted_final(line, ones), final_row(line))
            self.assertEqual(weighted_needed(line, ones), rounds_needed(line))

    def test_equal_weights_only_stretch_the_marks(self):
        for line in DRAWN:
            for rounds in [1, 2, GREAT]:
                wanted = tuple(MOST * mark for mark in row_after(line, rounds=rounds))
                self.assertEqual(weighted_after(line, (MOST,) * len(line), rounds=rounds), wanted)

    def test_texts_there_and_back(self):
        for line in DRAWN:
            for value in [line, ranks(line), *rows_of(line), weighted_final(line, (MOST,) * len(line))]:
                self.assertEqual(read_line(show_line(value)), value)
                self.assertEqual(show_line(read_line(show_line(value))), show_line(value))
            self.assertEqual(read_brackets(brackets(final_row(line))), final_row(line))

    def test_a_live_line_with_the_functions(self):
        choose = random.Random(93)
        for line in DRAWN:
            live = LiveLine(read_line(show_line(line)))
            for _ in range(10):
                self.check_live(live)
                operation = drawn_operation(live.line, choose)
                preview = live.preview(operation)
                getattr(live, operation[0])(*operation[1:])
                self.assertEqual(live.line, preview)

    def check_live(self, live):
        line = live.line
        self.assertIs(is_line(line), True)
        self.assertEqual([live.final, live.stands, len(live)], [final_row(line), is_still(line), len(line)])
        self.assertEqual(live.preview(("round",)), row_after(line))
        for rounds in [1, 2, GREAT]:
            self.assertEqual(live.preview(("rounds", rounds)), row_after(line, rounds=rounds))
        needed = rounds_needed(line)
        if needed > 0:
            self.assertEqual(live.preview(("rounds", needed)), live.final)
            self.assertIs(LiveLine(live.preview(("rounds", needed))).stands, True)

    def test_the_console_with_the_live_line_and_the_functions(self):
        choose = random.Random(94)
        for line in DRAWN:
            console = Console()
            self.assertEqual(console.say("line " + show_line(line)), "ok")
            live = LiveLine(line)
            for _ in range(10):
                self.check_console(console, live, choose)
                operation = drawn_operation(live.line, choose)
                found = getattr(live, operation[0])(*operation[1:])
                answer = console.say(" ".join(str(item) for item in operation))
                self.assertEqual(answer, "ok" if found is None else show_line(found))
                if choose.randrange(3) == 0:
                    live.undo()
                    self.assertEqual(console.say("undo"), "ok")

    def check_console(self, console, live, choose):
        line = live.line
        rounds = choose.choice([0, 1, 2, 58, 59, GREAT])
        wanted = [
            ("show", show_line(line)), ("final", show_line(live.final)), ("needed", str(rounds_needed(line))),
            (f"after {rounds}", show_line(row_after(line, rounds=rounds))),
            ("orders", str(count_orders(live.final))), ("brackets", brackets(live.final)),
        ]
        if live.stands:
            wanted.append(("number", str(still_number(line))))
        if len(line) > 1:
            person, other = choose.sample(range(len(line)), 2)
            wanted.append((f"certain {person} {other}", relation_in(live.final, person, other) or "none"))
        for row, answer in wanted:
            self.assertEqual(console.say(row), answer, (line, row))

    def test_rounds_and_persons(self):
        for line in DRAWN:
            self.assertEqual(row_after(line), tuple(len(counted(line, person)) for person in range(len(line))))
            self.assertEqual(max(person_rounds(line, person) for person in range(len(line))), rounds_needed(line))
            self.assertEqual(final_row(ranks(line)), final_row(line))
            self.assertEqual(meet(line, final_row(line)), rounds_needed(line))

    def test_still_rows_and_their_lines(self):
        choose = random.Random(95)
        for line in DRAWN:
            row = final_row(line)
            self.assertEqual(nth_still(len(row), still_number(row)), row)
            self.assertEqual(final_row(depths(row)), row)
            greatest = greatest_marks(row, below=least_below(row))
            self.assertEqual(final_row(greatest), row)
            self.assertTrue(all(least <= mark for least, mark in zip(depths(row), greatest)))
            order = nth_order(row, choose.randrange(count_orders(row)))
            self.assertEqual(final_row(order), row)
            for person, other in certain_pairs(row):
                self.assertLess(line[person], line[other])
                self.assertLess(order[person], order[other])
                self.assertLess(greatest[person], greatest[other])

    def test_the_orders_of_a_row_and_the_codes_with_it(self):
        for size in SIZES:
            for row in STILL[size]:
                self.assertEqual(count_marks(row, below=size), self.count_lines(row, size))
                orders = [nth_order(row, number) for number in range(count_orders(row))]
                codes = [row_after(order) for order in orders]
                self.assertEqual(len(set(codes)), len(orders))
                self.assertTrue(all(final_row(code) == row for code in codes))

    def count_lines(self, row, below):
        """By the codes to which the lines lead in one round: how many marks the sequence of each can have."""
        total = 0
        for number in range(count_orders(row)):
            least = least_before(row_after(nth_order(row, number)))
            # The sequence rises max(least) times for certain, and may rise at each step.
            total += math.comb(below - 1 - max(least) + len(row), len(row)) if max(least) < below else 0
        return total

    def test_one_round_back_and_forth(self):
        for line in DRAWN:
            code = row_after(line)
            self.assertIs(is_code(code), True)
            self.assertEqual(row_after(least_before(code)), code)
            self.assertEqual(row_after(order_of(code)), code)
            following = row_after(code)
            self.assertEqual(nth_before(following, number_before(code)), code)
            self.assertGreater(count_before(following), number_before(code))
            order = order_of(code)
            self.assertEqual(nth_order(final_row(order), order_number(order)), order)

    def test_what_is_certain_in_all_lines_is_certain_in_those_of_a_code(self):
        allowed = {"<": ("<",), "<=": ("<", "<="), ">": (">",), ">=": (">", ">="), None: ("<", "<=", ">", ">=")}
        for line in DRAWN:
            code = row_after(line)
            row = final_row(line)
            for person, other in itertools.permutations(range(min(len(line), 20)), 2):
                possible = allowed[relation_in(row, person, other)]
                self.assertIn(relation_after(code, person, other), possible)


if __name__ == "__main__":
    unittest.main()
