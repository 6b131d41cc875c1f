"""The still rows of a size, counted and numbered in ascending order."""

from math import comb

from countahead.errors import NoNumber, NoSize
from countahead.forests import list_depths
from countahead.rows import MOST_PERSONS, is_between
from countahead.steps import check_still


def check_size(size):
    """Raise NoSize if this is not a number of persons."""
    if not is_between(size, 1, MOST_PERSONS):
        raise NoSize("a size is an integer from 1 to 60")


def count_behind(depth, behind):
    """Return in how many ways persons may follow one of this depth; -1 stands for the front of the row."""
    # Each of them has a depth from 0 to 1 more than that of the person just ahead: a number of ballots.
    return (depth + 2) * comb(2 * behind + depth + 2, behind) // (2 * behind + depth + 2)


def count_lower(depth, behind):
    """Return how many rows have a lesser depth than this one at a place, with as many persons behind it."""
    # The depths from 0 to depth - 1 are those that may follow the depth - 2.
    return count_behind(depth - 2, behind + 1)


def count_still(size):
    """Return the number of still rows with this number of persons."""
    check_size(size)
    return count_behind(-1, size)


def nth_still(size, number):
    """Return the still row of a size with this number."""
    check_size(size)
    if not is_between(number, 0, count_behind(-1, size) - 1):
        raise NoNumber("there is no still row of this size with this number")
    left = number
    row = []
    # The marks that the next person may have, by depth. They ascend, so rows are in the order of their depths, too.
    marks = [0]
    for behind in reversed(range(size)):
        depth = len(marks) - 1
        while count_lower(depth, behind) > left:
            depth -= 1
        left -= count_lower(depth, behind)
        row.append(marks[depth])
        del marks[depth + 1:]
        marks.append(len(row))
    return tuple(row)


def still_number(row):
    """Return the number of a still row among those of its size."""
    check_still(row)
    last = len(row) - 1
    return sum([count_lower(depth, last - place) for place, depth in enumerate(list_depths(row))])
