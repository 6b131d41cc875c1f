"""The lines with one final row whose marks are at least 0 and smaller than a bound."""

from countahead.errors import NoBound
from countahead.forests import list_depths
from countahead.orders import list_followers
from countahead.rows import GREATEST, is_between
from countahead.steps import check_still


def check_bound(below):
    """Raise NoBound if this is not a bound of the marks."""
    if not is_between(below, 1, GREATEST):
        raise NoBound("a bound is an integer from 1 to 10 ** 30")


def list_upwards(row):
    """Return the persons of a still row, children ahead of their parents and elder siblings ahead of younger ones."""
    found = list_depths(row)
    return sorted(range(len(row)), key=lambda person: -found[person])


def least_below(row):
    """Return the least bound for which a line has this final row."""
    check_still(row)
    return max(list_depths(row)) + 1


def greatest_marks(row, *, below):
    """Return the line with this final row in which every mark below the bound is as great as it can be."""
    check_still(row)
    check_bound(below)
    if below <= max(list_depths(row)):
        raise NoBound("no line with marks below this bound has this final row")
    followers = list_followers(row)
    marks = [below - 1] * len(row)
    for person in list_upwards(row):
        for follower in followers[person + 1]:
            # The elder sibling, who stands ahead, may have the same mark; the youngest child has a greater one.
            most = marks[follower] if follower < person else marks[follower] - 1
            marks[person] = min(marks[person], most)
    return tuple(marks)


def join_counts(elder, child):
    """Return a person's counts, given those of the elder sibling and of the youngest child.

    They tell, at 0, 1 and so on, in how many ways the persons of the stretch can have marks below that bound.
    """
    found = [0]
    for below in range(1, len(elder)):
        # Either the person has the mark 0, and so all children have a mark above 0; or nobody here has the mark 0.
        found.append(elder[below] * child[below - 1] + found[-1])
    return found


def list_counts(row, most):
    """Return the numbers of lines with this final row for the bounds from 0 to most."""
    followers = list_followers(row)
    nobody = [1] * (most + 1)
    counts = [nobody for _ in row]
    for person in list_upwards(row):
        elder = child = nobody
        for follower in followers[person + 1]:
            if follower < person:
                elder = counts[follower]
            else:
                child = counts[follower]
        counts[person] = join_counts(elder, child)
    # The youngest root has the least mark of all: its stretch is the whole row.
    return counts[followers[0][0]]


def value_at(values, at):
    """Return the value of a polynomial, given its values at 0, 1 and so on, one more than its degree."""
    total = 0
    ways = 1
    differences = values
    for many in range(len(values)):
        total += ways * differences[0]
        ways = ways * (at - many) // (many + 1)
        differences = [after - before for before, after in zip(differences, differences[1:])]
    return total


def count_marks(row, *, below):
    """Return the number of lines with this final row."""
    check_still(row)
    check_bound(below)
    # The number is a polynomial in the bound, with the number of persons as its degree.
    return value_at(list_counts(row, min(below, len(row))), below)
