"""Section 11: relation_in, relation_after, certain_pairs."""

import inspect
import itertools
import random
import unittest

from countahead.errors import NoCode, NoLine, NoPerson, NotStill
from countahead.reading import certain_pairs, relation_after, relation_in
from tests.faults import FaultCase
from tests.plain import GREAT, NO_LINES, NO_PERSONS, is_integer, plain_final, plain_round
from tests.walks import CODES, LARGE_STILL, NO_CODES, NOT_STILL, STILL, grouped, led

TURNED = {"<": ">", "<=": ">=", ">": "<", ">=": "<=", None: None}


def relation_of(lines, person, other):
    """The relation that the two have in all of the lines."""
    pairs = {(line[person] > line[other]) - (line[person] < line[other]) for line in lines}
    if pairs <= {-1}:
        return "<"
    if pairs <= {1}:
        return ">"
    if pairs <= {-1, 0}:
        return "<="
    if pairs <= {1, 0}:
        return ">="
    return None


def closed(size, steps):
    """All that follows from steps (person, other, strict): person's mark is at most the other's, or less."""
    found = {(person, person): False for person in range(size)}
    for person, other, strict in steps:
        found[person, other] = strict or found.get((person, other), False)
    for middle in range(size):
        for person in range(size):
            if (person, middle) in found:
                for other in range(size):
                    if (middle, other) in found:
                        strict = found[person, middle] or found[middle, other] or found.get((person, other), False)
                        found[person, other] = strict
    return found


def known(found, person, other):
    if (person, other) in found:
        return "<" if found[person, other] else "<="
    if (other, person) in found:
        return ">" if found[other, person] else ">="
    return None


def steps_in(row):
    """What the definition of the final row says of the marks of a line."""
    steps = []
    for person, mark in enumerate(row):
        if mark > 0:
            steps.append((mark - 1, person, True))
        steps.extend((person, other, False) for other in range(mark, person))
    return steps


def steps_after(code, order):
    """What each person counts, as the order from which a round leads to the code tells it."""
    steps = []
    for person in range(len(code)):
        for ahead in range(person):
            if order[ahead] < order[person]:
                steps.append((ahead, person, True))
            else:
                steps.append((person, ahead, False))
    return steps


def drawn_order(size, choose):
    order = list(range(size))
    choose.shuffle(order)
    return tuple(order)


class ExamplesTest(unittest.TestCase):

    def test_relation_in(self):
        still = (0, 0, 2, 3)
        found = [relation_in(still, 0, 1), relation_in(still, 1, 3), relation_in(still, 0, 2)]
        self.assertEqual(found, [">=", "<", None])

    def test_relation_after(self):
        found = [relation_after((0, 0, 1, 2), 0, 3), relation_after((0, 0, 1, 2), 1, 3)]
        self.assertEqual(found, [">=", "<"])

    def test_certain_pairs(self):
        self.assertEqual(certain_pairs((0, 0, 2, 3)), [(1, 2), (1, 3), (2, 3)])


class FewPersonsTest(unittest.TestCase):
    """Against all lines with as many different marks as there are persons: no line tells more."""

    def test_relation_in_and_certain_pairs(self):
        for size in range(1, 6):
            lines_of = grouped(itertools.product(range(size), repeat=size))
            self.assertEqual(sorted(lines_of), STILL[size])
            for row, lines in lines_of.items():
                less = []
                for person, other in itertools.permutations(range(size), 2):
                    wanted = relation_of(lines, person, other)
                    self.assertEqual(relation_in(row, person, other), wanted, (row, person, other))
                    if wanted == "<":
                        less.append((person, other))
                self.assertEqual(certain_pairs(row), less, row)

    def test_relation_after(self):
        for size in range(1, 6):
            lines_to = led(itertools.product(range(size), repeat=size))
            self.assertEqual(sorted(lines_to), CODES[size])
            for code, lines in lines_to.items():
                for person, other in itertools.permutations(range(size), 2):
                    wanted = relation_of(lines, person, other)
                    self.assertIsNotNone(wanted)
                    self.assertEqual(relation_after(code, person, other), wanted, (code, person, other))


class ManyPersonsTest(unittest.TestCase):
    """Against all that follows from the single comparisons that the definitions name."""

    def test_relation_in_and_certain_pairs(self):
        for row in LARGE_STILL[::7] + STILL[6]:
            found = closed(len(row), steps_in(row))
            less = []
            for person, other in itertools.permutations(range(len(row)), 2):
                wanted = known(found, person, other)
                self.assertEqual(relation_in(row, person, other), wanted, (row, person, other))
                if wanted == "<":
                    less.append((person, other))
            self.assertEqual(certain_pairs(row), less)

    def test_relation_after(self):
        choose = random.Random(41)
        for size in [6, 7, 12, 30, 59, 60]:
            order = drawn_order(size, choose)
            code = plain_round(order)
            found = closed(size, steps_after(code, order))
            for person, other in itertools.permutations(range(size), 2):
                self.assertEqual(relation_after(code, person, other), known(found, person, other), (code, person, other))

    def test_the_other_way_round(self):
        for row in LARGE_STILL[::5]:
            for person, other in itertools.combinations(range(len(row)), 2):
                for function in [relation_in, relation_after]:
                    self.assertEqual(function(row, person, other), TURNED[function(row, other, person)])

    def test_drawn_lines_have_the_certain_relations(self):
        choose = random.Random(42)
        for size in [7, 30, 60]:
            for most in [2, 5, GREAT]:
                line = tuple(choose.randint(-most, most) for _ in range(size))
                for person, other in itertools.permutations(range(size), 2):
                    possible = {"<", "<="} if line[person] < line[other] else {">", ">="}
                    if line[person] == line[other]:
                        possible = {"<=", ">="}
                    self.assertIn(relation_after(plain_round(line), person, other), possible)
                    self.assertIn(relation_in(plain_final(line), person, other), possible | {None})


class EdgesTest(unittest.TestCase):

    def test_one_person(self):
        self.assertEqual(certain_pairs((0,)), [])

    def test_sixty_persons(self):
        alone = (0,) * 60
        rising = tuple(range(60))
        self.assertEqual([relation_in(alone, 0, 59), relation_in(alone, 59, 0)], [">=", "<="])
        self.assertEqual([relation_in(rising, 0, 59), relation_in(rising, 59, 0)], ["<", ">"])
        self.assertEqual([relation_after(alone, 0, 59), relation_after(alone, 59, 0)], [">=", "<="])
        self.assertEqual([relation_after(rising, 0, 59), relation_after(rising, 59, 0)], ["<", ">"])
        self.assertEqual(certain_pairs(alone), [])
        self.assertEqual(certain_pairs(rising), list(itertools.combinations(range(60), 2)))

    def test_a_certain_pair_whose_first_person_stands_behind(self):
        self.assertEqual(certain_pairs((0, 1, 0)), [(0, 1), (2, 1)])
        self.assertEqual(relation_in((0, 1, 0), 2, 1), "<")
        self.assertEqual(relation_in((0, 1, 0), 1, 2), ">")
        self.assertEqual(relation_in((0, 1, 0), 2, 0), "<=")

    def test_cousins_are_not_compared(self):
        self.assertIsNone(relation_in((0, 1, 0, 3), 1, 3))
        self.assertIsNone(relation_in((0, 1, 0, 3), 3, 1))

    def test_kinds(self):
        found = certain_pairs((0, 1, 0))
        self.assertIs(type(found), list)
        self.assertTrue(all(type(pair) is tuple and len(pair) == 2 for pair in found))
        self.assertTrue(all(is_integer(place) for pair in found for place in pair))

    def test_the_list_is_new(self):
        row = (0, 1, 0)
        certain_pairs(row).clear()
        self.assertEqual(certain_pairs(row), [(0, 1), (2, 1)])


class FaultsTest(FaultCase):

    def test_no_line_and_not_still(self):
        for kind, values in [(NoLine, NO_LINES), (NotStill, NOT_STILL)]:
            for value in values:
                self.assert_raises(kind, certain_pairs, value)
                self.assert_raises(kind, relation_in, value, 0, 1)

    def test_no_code(self):
        for value in NO_LINES + NO_CODES + [[0, 1], (0, True)]:
            self.assert_raises(NoCode, relation_after, value, 0, 1)

    def test_no_person(self):
        for function in [relation_in, relation_after]:
            for row in [(0,), (0, 1), (0, 0, 2, 3), (0,) * 60, tuple(range(60))]:
                last = len(row) - 1
                for value in NO_PERSONS + [len(row), -len(row)]:
                    self.assert_raises(NoPerson, function, row, value, last)
                    self.assert_raises(NoPerson, function, row, last, value)
                    self.assert_raises(NoPerson, function, row, value, value)

    def test_the_same_person(self):
        for function in [relation_in, relation_after]:
            for row in [(0,), (0, 1), (0, 0, 2, 3), (0,) * 60, tuple(range(60))]:
                for person in range(len(row)):
                    self.assert_raises(NoPerson, function, row, person, person)

    def test_the_row_is_checked_ahead_of_the_persons(self):
        for value in NO_PERSONS:
            for line in NO_LINES:
                self.assert_raises(NoLine, relation_in, line, value, 0)
                self.assert_raises(NoLine, relation_in, line, 0, value)
                self.assert_raises(NoCode, relation_after, line, value, value)
            for line in NOT_STILL:
                self.assert_raises(NotStill, relation_in, line, value, 0)
                self.assert_raises(NotStill, relation_in, line, 0, value)
            for line in NO_CODES:
                self.assert_raises(NoCode, relation_after, line, value, 0)
                self.assert_raises(NoCode, relation_after, line, 0, value)
        self.assert_raises(NotStill, relation_in, (0, 0, 1), 1, 1)
        self.assert_raises(NoCode, relation_after, (0, 2), 1, 1)

    def test_the_arguments_are_called_as_listed(self):
        self.assertEqual(str(inspect.signature(relation_in)), "(row, person, other)")
        self.assertEqual(str(inspect.signature(relation_after)), "(code, person, other)")
        self.assertEqual(str(inspect.signature(certain_pairs)), "(row)")


if __name__ == "__main__":
    unittest.main()
