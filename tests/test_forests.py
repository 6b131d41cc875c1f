"""Section 6 with points 7 and 9: parent, children, roots, depths, stretch, brackets, read_brackets."""

import inspect
import itertools
import unittest

from countahead.errors import NoLine, NoPerson, NoText, NotStill
from countahead.forests import brackets, children, depths, parent, read_brackets, roots, stretch
from tests.faults import FaultCase
from tests.plain import NO_LINES, NO_PERSONS, is_integer, plain_final, plain_round
from tests.walks import LARGE_STILL, NO_TEXTS, NOT_STILL, ORDERS_OF, SIZES, SMALL_STILL, SOME_STILL, STILL
from tests.walks import grouped, plain_brackets, plain_depth, plain_end

OF_A_ROW = [roots, depths, brackets]
OF_A_PERSON = [parent, children, stretch]


class ExamplesTest(unittest.TestCase):

    def test_parent_and_children(self):
        still = (0, 0, 2, 3)
        self.assertEqual([parent(still, 0), parent(still, 2), children(still, 1)], [None, 1, [2]])

    def test_roots(self):
        self.assertEqual(roots((0, 0, 2, 3)), [0, 1])

    def test_depths(self):
        self.assertEqual(depths((0, 0, 2, 3)), (0, 0, 1, 2))

    def test_stretch(self):
        still = (0, 0, 2, 3)
        self.assertEqual([stretch(still, person) for person in range(4)], [(0, 1), (0, 4), (2, 4), (3, 4)])

    def test_brackets_and_read_brackets(self):
        self.assertEqual([brackets((0, 0, 2, 3)), read_brackets("(())()")], ["()((()))", (0, 1, 0)])


class WalksTest(unittest.TestCase):
    """What the tests are built on."""

    def test_the_rows_are_still_and_the_others_are_not(self):
        for row in SOME_STILL:
            self.assertEqual(plain_round(row), row)
            self.assertEqual(plain_final(row), row)
        for line in NOT_STILL:
            self.assertNotEqual(plain_round(line), line)

    def test_there_are_many(self):
        self.assertEqual([len(STILL[size]) for size in SIZES], [1, 2, 5, 14, 42, 132])
        self.assertEqual(len(set(LARGE_STILL)) > 100, True)


class FamilyTest(unittest.TestCase):

    def test_parent(self):
        for row in SOME_STILL:
            for person, mark in enumerate(row):
                found = parent(row, person)
                self.assertEqual(found, None if mark == 0 else mark - 1, (row, person))
                self.assertTrue(found is None or is_integer(found))

    def test_the_parent_is_the_last_person_ahead_with_a_smaller_mark(self):
        for row in SOME_STILL:
            for person, mark in enumerate(row):
                smaller = [ahead for ahead in range(person) if row[ahead] < mark]
                self.assertEqual(parent(row, person), max(smaller, default=None), (row, person))

    def test_children(self):
        for row in SOME_STILL:
            for person in range(len(row)):
                wanted = [child for child in range(len(row)) if row[child] - 1 == person]
                self.assertEqual(children(row, person), wanted, (row, person))

    def test_roots(self):
        for row in SOME_STILL:
            self.assertEqual(roots(row), [person for person in range(len(row)) if not row[person]], row)

    def test_everybody_is_a_root_or_the_child_of_one_person(self):
        for row in SOME_STILL:
            found = roots(row)
            for person in range(len(row)):
                found.extend(children(row, person))
            self.assertEqual(sorted(found), list(range(len(row))))

    def test_edges(self):
        self.assertEqual([parent((0,), 0), children((0,), 0), roots((0,))], [None, [], [0]])
        alone = (0,) * 60
        self.assertEqual([parent(alone, 59), children(alone, 0), roots(alone)], [None, [], list(range(60))])
        rising = tuple(range(60))
        self.assertEqual([parent(rising, 59), children(rising, 58), children(rising, 59)], [58, [59], []])
        self.assertEqual(roots(rising), [0])
        fan = (0,) + (1,) * 59
        self.assertEqual([parent(fan, 59), children(fan, 0), children(fan, 1)], [0, list(range(1, 60)), []])

    def test_the_lists_are_new(self):
        row = (0, 1, 1, 0)
        children(row, 0).append(7)
        roots(row).clear()
        self.assertEqual([children(row, 0), roots(row)], [[1, 2], [0, 3]])
        self.assertIs(type(children(row, 0)), list)
        self.assertIs(type(roots(row)), list)


class DepthsTest(unittest.TestCase):

    def test_against_the_way_to_the_root(self):
        for row in SOME_STILL:
            found = depths(row)
            self.assertEqual(found, tuple(plain_depth(row, person) for person in range(len(row))), row)
            self.assertIs(type(found), tuple)

    def test_they_are_the_least_marks_with_this_final_row(self):
        for size in range(1, 6):
            for row, lines in grouped(itertools.product(range(size), repeat=size)).items():
                least = tuple(min(line[person] for line in lines) for person in range(size))
                self.assertIn(least, lines)
                self.assertEqual(depths(row), least)

    def test_they_have_this_final_row(self):
        for row in SOME_STILL:
            self.assertEqual(plain_final(depths(row)), row)

    def test_edges(self):
        self.assertEqual(depths((0,)), (0,))
        self.assertEqual(depths((0,) * 60), (0,) * 60)
        self.assertEqual(depths(tuple(range(60))), tuple(range(60)))
        self.assertEqual(depths((0,) + (1,) * 59), (0,) + (1,) * 59)


class StretchTest(unittest.TestCase):

    def test_against_the_plain_search(self):
        for row in SOME_STILL:
            for person in range(len(row)):
                found = stretch(row, person)
                self.assertEqual(found, (row[person], plain_end(row, person)), (row, person))
                self.assertIs(type(found), tuple)
                self.assertTrue(is_integer(found[0]) and is_integer(found[1]))

    def test_the_person_has_the_least_mark_and_those_behind_greater_ones(self):
        for size in range(1, 6):
            for row, lines in grouped(itertools.product(range(size), repeat=size)).items():
                for person in range(size):
                    first, end = stretch(row, person)
                    for line in lines:
                        self.assertEqual(min(line[first:end]), line[person])
                        self.assertTrue(all(line[other] > line[person] for other in range(person + 1, end)))

    def test_it_reaches_as_far_as_possible(self):
        for size in SIZES:
            for row, orders in ORDERS_OF[size].items():
                for person in range(size):
                    first, end = stretch(row, person)
                    for order in orders:
                        self.assertTrue(first == 0 or order[first - 1] < order[person])
                        self.assertTrue(end == size or order[end] < order[person])

    def test_edges(self):
        self.assertEqual(stretch((0,), 0), (0, 1))
        self.assertEqual(stretch((0,) * 60, 0), (0, 1))
        self.assertEqual(stretch((0,) * 60, 59), (0, 60))
        self.assertEqual(stretch(tuple(range(60)), 0), (0, 60))
        self.assertEqual(stretch(tuple(range(60)), 59), (59, 60))
        self.assertEqual(stretch((0, 1, 1, 1), 2), (1, 3))


class BracketsTest(unittest.TestCase):

    def test_against_the_definition(self):
        for row in SOME_STILL:
            text = brackets(row)
            self.assertEqual(text, plain_brackets(row), row)
            self.assertIs(type(text), str)

    def test_there_and_back(self):
        for row in SOME_STILL:
            found = read_brackets(brackets(row))
            self.assertEqual(found, row)
            self.assertIs(type(found), tuple)
            self.assertTrue(all(is_integer(mark) for mark in found))

    def test_all_texts_of_up_to_ten_brackets(self):
        texts = {plain_brackets(row): row for row in SMALL_STILL}
        for many in range(1, 11):
            for signs in itertools.product("()", repeat=many):
                text = "".join(signs)
                if text in texts:
                    self.assertEqual(read_brackets(text), texts[text])
                    self.assertEqual(brackets(texts[text]), text)
                else:
                    self.assertRaises(NoText, read_brackets, text)

    def test_edges(self):
        self.assertEqual(read_brackets("()"), (0,))
        self.assertEqual(brackets((0,)), "()")
        self.assertEqual(read_brackets("()" * 60), (0,) * 60)
        self.assertEqual(brackets((0,) * 60), "()" * 60)
        self.assertEqual(read_brackets("(" * 60 + ")" * 60), tuple(range(60)))
        self.assertEqual(brackets(tuple(range(60))), "(" * 60 + ")" * 60)
        self.assertEqual(read_brackets("(" + "()" * 59 + ")"), (0,) + (1,) * 59)
        self.assertRaises(NoText, read_brackets, "()" * 61)
        self.assertRaises(NoText, read_brackets, "(" * 61 + ")" * 61)
        self.assertRaises(NoText, read_brackets, "")


class FaultsTest(FaultCase):

    def test_no_line(self):
        for value in NO_LINES:
            for function in OF_A_ROW:
                self.assert_raises(NoLine, function, value)
            for function in OF_A_PERSON:
                self.assert_raises(NoLine, function, value, 0)

    def test_not_still(self):
        for line in NOT_STILL:
            for function in OF_A_ROW:
                self.assert_raises(NotStill, function, line)
            for function in OF_A_PERSON:
                self.assert_raises(NotStill, function, line, 0)

    def test_no_person(self):
        for row in [(0,), (0, 0), (0, 1), (0, 0, 2, 3), (0,) * 60, tuple(range(60))]:
            for function in OF_A_PERSON:
                for value in NO_PERSONS + [len(row), len(row) + 1, -len(row)]:
                    self.assert_raises(NoPerson, function, row, value)
                function(row, len(row) - 1)

    def test_the_row_is_checked_ahead_of_the_person(self):
        for function in OF_A_PERSON:
            for value in NO_PERSONS:
                for line in NO_LINES:
                    self.assert_raises(NoLine, function, line, value)
                for line in NOT_STILL:
                    self.assert_raises(NotStill, function, line, value)

    def test_no_text(self):
        for value in NO_TEXTS:
            self.assert_raises(NoText, read_brackets, value)

    def test_the_arguments_are_called_as_listed(self):
        for function in OF_A_ROW:
            self.assertEqual(str(inspect.signature(function)), "(row)")
        for function in OF_A_PERSON:
            self.assertEqual(str(inspect.signature(function)), "(row, person)")
        self.assertEqual(str(inspect.signature(read_brackets)), "(text)")


if __name__ == "__main__":
    unittest.main()
