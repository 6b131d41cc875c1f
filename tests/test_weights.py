"""Section 12 with points 2 (e) and 12: is_weights, weighted_after, weighted_final, weighted_needed."""

import inspect
import itertools
import random
import unittest

from countahead.errors import NoLine, NoRounds, NoWeights
from countahead.steps import final_row
from countahead.weights import is_weights, weighted_after, weighted_final, weighted_needed
from tests.faults import FaultCase
from tests.plain import GREAT, LATE_STILL, NO_LINES, NO_ROUNDS, SOON_STILL, is_integer, lines_of, plain_final
from tests.plain import plain_last, plain_needed, slow_line

MOST = 10 ** 28

# No weights of any line.
NEVER_WEIGHTS = [
    [3, 1, 2, 5], [1], [], "3 1 2 5", "", b"\x01", None, 0, 1, True, False, 10 ** 99, {}, {0: 1}, {1}, range(1, 5),
    object(), int, (), ((),), ((1,),), (True,), (False,), (0,), (-1,), (MOST + 1,), (10 ** 99,), ("1",), (None,), ([1],),
    ({},), (1,) * 61, (1,) * 200, (((((1,),),),),),
]

# No weights of a line of four persons; the wrong one at each place.
WRONG_ONES = [0, -1, MOST + 1, 10 ** 99, -10 ** 99, True, False, None, "1", "", b"1", (), (1,), [], [1], {}, {1: 1}, {1}]
NO_WEIGHTS_OF_FOUR = [(1,) * size for size in range(0, 62) if size != 4] + NEVER_WEIGHTS
NO_WEIGHTS_OF_FOUR += [(3, 1, 2, 5)[:place] + (wrong,) + (3, 1, 2, 5)[place + 1:]
                       for place in range(4) for wrong in WRONG_ONES]


def plain_weighted(line, weights):
    """One weighted round, person by person."""
    marks = []
    for person in range(len(line)):
        total = 0
        for ahead in range(person):
            if line[ahead] < line[person]:
                total += weights[ahead]
        marks.append(total)
    return tuple(marks)


def plain_weighted_rows(line, weights):
    """The line and the rows after 1, 2 .. n + 3 weighted rounds."""
    rows = [line]
    for _ in range(len(line) + 3):
        rows.append(plain_weighted(rows[-1], weights))
    return rows


def weights_of(size, choose):
    return [
        (1,) * size,
        (MOST,) * size,
        tuple(choose.randint(1, 9) for _ in range(size)),
        tuple(choose.randint(1, MOST) for _ in range(size)),
        tuple(choose.choice([1, MOST - 1, MOST]) for _ in range(size)),
        tuple(place + 1 for place in range(size)),
        tuple(MOST - place for place in range(size)),
    ]


def few_persons():
    """Lines of up to four persons with the marks 0 to 2, with the weights 1, 2, 5, and some with marks as sums."""
    for size in range(1, 4):
        for line in itertools.product(range(4), repeat=size):
            for weights in itertools.product([1, 2, 5], repeat=size):
                yield line, weights
    for line in itertools.product(range(3), repeat=4):
        for weights in itertools.product([1, 3], repeat=4):
            yield line, weights


def many_persons():
    choose = random.Random(51)
    for size in [2, 3, 5, 8, 13, 30, 59, 60]:
        for line in lines_of(size, choose):
            yield line, weights_of(size, choose)[choose.randrange(7)]
        for weights in weights_of(size, choose):
            yield slow_line(size), weights
            yield tuple(choose.randint(-3, size) for _ in range(size)), weights
            # The marks are of the size of the sums.
            yield tuple(sum(weights[:choose.randint(0, size)]) for _ in range(size)), weights


class ExamplesTest(unittest.TestCase):

    def test_is_weights(self):
        line = (5, 1, 2, 4)
        self.assertEqual([is_weights(line, (3, 1, 2, 5)), is_weights(line, (3, 1, 2))], [True, False])

    def test_weighted_after(self):
        line = (5, 1, 2, 4)
        found = [weighted_after(line, (3, 1, 2, 5)), weighted_after(line, (3, 1, 2, 5), rounds=10 ** 30)]
        self.assertEqual(found, [(0, 0, 1, 3), (0, 0, 4, 6)])

    def test_weighted_final(self):
        self.assertEqual(weighted_final((0, 1, 0, 1), (10, 1, 1, 1)), (0, 10, 0, 12))

    def test_weighted_needed(self):
        found = [weighted_needed((5, 1, 2, 4), (3, 1, 2, 5)), weighted_needed((6, 7, 8, 0, 5), (1, 1, 1, 9, 1))]
        self.assertEqual(found, [2, 2])


class IsWeightsTest(unittest.TestCase):

    def test_weights(self):
        choose = random.Random(52)
        for size in range(1, 61):
            for weights in weights_of(size, choose):
                self.assertIs(is_weights((0,) * size, weights), True, weights)

    def test_what_is_none(self):
        for value in NO_WEIGHTS_OF_FOUR:
            self.assertIs(is_weights((5, 1, 2, 4), value), False, value)
        for line in [(0,), (0,) * 30, (0,) * 60]:
            for value in NEVER_WEIGHTS:
                self.assertIs(is_weights(line, value), False, value)

    def test_lengths(self):
        for size in [1, 2, 4, 59, 60]:
            for length in range(0, 200):
                self.assertIs(is_weights((0,) * size, (1,) * length), length == size)

    def test_ends(self):
        wanted = [(0, False), (1, True), (2, True), (MOST - 1, True), (MOST, True), (MOST + 1, False), (-1, False)]
        for weight, answer in wanted:
            for place in [0, 30, 59]:
                weights = [7] * 60
                weights[place] = weight
                self.assertIs(is_weights((0,) * 60, tuple(weights)), answer, (weight, place))
            self.assertIs(is_weights((5,), (weight,)), answer)


class RoundsTest(unittest.TestCase):
    """Against weighted rounds played one by one."""

    def check(self, line, weights, numbers):
        rows = plain_weighted_rows(line, weights)
        needed = weighted_needed(line, weights)
        self.assertEqual(needed, plain_needed(rows), (line, weights))
        self.assertTrue(is_integer(needed))
        self.assertEqual(weighted_final(line, weights), rows[-1], (line, weights))
        self.assertEqual(weighted_after(line, weights), rows[1], (line, weights))
        for rounds in numbers:
            found = weighted_after(line, weights, rounds=rounds)
            self.assertEqual(found, rows[min(rounds, len(rows) - 1)], (line, weights, rounds))
            self.assertIs(type(found), tuple)
            self.assertTrue(all(is_integer(mark) for mark in found))

    def test_few_persons(self):
        for line, weights in few_persons():
            self.check(line, weights, [0, 1, 2, 3, GREAT])

    def test_many_persons(self):
        for line, weights in many_persons():
            size = len(line)
            self.check(line, weights, [0, 1, 2, 3, size // 2, size - 2, size - 1, size, size + 1, GREAT - 1, GREAT])

    def test_each_number_of_rounds_of_slow_lines(self):
        choose = random.Random(53)
        for line in [LATE_STILL, SOON_STILL, slow_line(30)]:
            for weights in weights_of(len(line), choose):
                self.check(line, weights, range(0, len(line) + 3))

    def test_some_lines_take_long_and_none_longer(self):
        needed = [weighted_needed(line, weights) for line, weights in many_persons() if len(line) == 60]
        self.assertEqual(max(needed), 59)
        self.assertTrue(all(weighted_needed(line, weights) <= max(1, len(line) - 1) for line, weights in few_persons()))

    def test_points_2_e_and_12_the_sums_up_to_the_last_smaller_one(self):
        for line, weights in itertools.chain(few_persons(), many_persons()):
            found = weighted_final(line, weights)
            for person, mark in enumerate(found):
                last = plain_last(line, person)
                self.assertEqual(mark, 0 if last is None else sum(weights[:last + 1]))
            self.assertEqual(found, tuple(sum(weights[:many]) for many in final_row(line)))

    def test_the_result_is_a_line_with_the_same_final_row(self):
        for line, weights in many_persons():
            for rounds in [1, 2, 5, GREAT]:
                found = weighted_after(line, weights, rounds=rounds)
                self.assertEqual(plain_final(found), plain_final(line))
                self.assertEqual(final_row(found), plain_final(line))
            self.assertEqual(weighted_needed(weighted_final(line, weights), weights), 0)
            self.assertEqual(weighted_final(weighted_after(line, weights), weights), weighted_final(line, weights))


class EdgesTest(unittest.TestCase):

    def test_one_person(self):
        for mark in [0, 1, -1, GREAT, -GREAT]:
            for weight in [1, MOST]:
                self.assertEqual(weighted_after((mark,), (weight,), rounds=0), (mark,))
                self.assertEqual(weighted_after((mark,), (weight,)), (0,))
                self.assertEqual(weighted_after((mark,), (weight,), rounds=GREAT), (0,))
                self.assertEqual(weighted_final((mark,), (weight,)), (0,))
                self.assertEqual(weighted_needed((mark,), (weight,)), 0 if mark == 0 else 1)

    def test_sixty_persons_with_the_greatest_weights(self):
        rising = tuple(range(60))
        sums = tuple(place * MOST for place in range(60))
        self.assertEqual(weighted_after(rising, (MOST,) * 60), sums)
        self.assertEqual(weighted_final(rising, (MOST,) * 60), sums)
        self.assertEqual([weighted_needed(rising, (MOST,) * 60), weighted_needed(sums, (MOST,) * 60)], [1, 0])
        self.assertEqual(weighted_needed(rising, (1,) * 60), 0)
        self.assertEqual(weighted_final((7,) * 60, (MOST,) * 60), (0,) * 60)

    def test_a_mark_that_is_the_final_one_too_early(self):
        # The marks 0 and 3 are those of the end, but the round between changes one of them.
        line = (9, 0, 3)
        self.assertEqual(plain_weighted_rows(line, (2, 1, 1))[:3], [(9, 0, 3), (0, 0, 1), (0, 0, 3)])
        self.assertEqual([weighted_after(line, (2, 1, 1)), weighted_after(line, (2, 1, 1), rounds=2)],
                         [(0, 0, 1), (0, 0, 3)])
        self.assertEqual(weighted_needed(line, (2, 1, 1)), 2)


class FaultsTest(FaultCase):

    def test_no_line(self):
        for value in NO_LINES:
            self.assert_raises(NoLine, is_weights, value, (1,))
            self.assert_raises(NoLine, weighted_after, value, (1,))
            self.assert_raises(NoLine, weighted_after, value, (1,), rounds=0)
            self.assert_raises(NoLine, weighted_final, value, (1,))
            self.assert_raises(NoLine, weighted_needed, value, (1,))

    def test_no_weights(self):
        for value in NO_WEIGHTS_OF_FOUR:
            self.assert_raises(NoWeights, weighted_after, (5, 1, 2, 4), value)
            self.assert_raises(NoWeights, weighted_after, (5, 1, 2, 4), value, rounds=0)
            self.assert_raises(NoWeights, weighted_after, (5, 1, 2, 4), value, rounds=GREAT)
            self.assert_raises(NoWeights, weighted_final, (5, 1, 2, 4), value)
            self.assert_raises(NoWeights, weighted_needed, (5, 1, 2, 4), value)

    def test_no_rounds(self):
        for line in [(0,), (5, 1, 2, 4), (0,) * 60]:
            for value in NO_ROUNDS:
                self.assert_raises(NoRounds, weighted_after, line, (1,) * len(line), rounds=value)

    def test_the_line_is_checked_ahead_of_the_weights_and_these_ahead_of_the_rounds(self):
        for line in NO_LINES:
            for value in NEVER_WEIGHTS:
                self.assert_raises(NoLine, is_weights, line, value)
                self.assert_raises(NoLine, weighted_after, line, value, rounds=-1)
                self.assert_raises(NoLine, weighted_final, line, value)
                self.assert_raises(NoLine, weighted_needed, line, value)
            self.assert_raises(NoLine, weighted_after, line, (1,), rounds=None)
        for value in NEVER_WEIGHTS:
            for rounds in NO_ROUNDS:
                self.assert_raises(NoWeights, weighted_after, (5, 1, 2, 4), value, rounds=rounds)

    def test_the_arguments_are_called_as_listed(self):
        self.assertEqual(str(inspect.signature(is_weights)), "(line, value)")
        self.assertEqual(str(inspect.signature(weighted_after)), "(line, weights, *, rounds=1)")
        self.assertEqual(str(inspect.signature(weighted_final)), "(line, weights)")
        self.assertEqual(str(inspect.signature(weighted_needed)), "(line, weights)")
        self.assertRaises(TypeError, weighted_after, (0,), (1,), 1)


if __name__ == "__main__":
    unittest.main()
