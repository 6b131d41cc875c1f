"""Weighted rounds: everybody adds the weights of the smaller ones ahead in place of counting them."""

from countahead.errors import NoWeights
from countahead.rows import check_line, check_rounds, final_marks, is_between

GREATEST_WEIGHT = 10 ** 28


def is_weights(line, value):
    """Return True if the value is weights of the line."""
    check_line(line)
    if not isinstance(value, tuple) or len(value) != len(line):
        return False
    return all([is_between(weight, 1, GREATEST_WEIGHT) for weight in value])


def check_weights(line, weights):
    """Raise NoLine if this is not a line, NoWeights if these are not weights of it."""
    if not is_weights(line, weights):
        raise NoWeights("weights are a tuple of an integer from 1 to 10 ** 28 for each person of the line")


def sum_ahead(weights, places):
    """Return for each of these places the sum of the weights of all persons ahead of it."""
    sums = [0]
    for weight in weights:
        sums.append(sums[-1] + weight)
    return tuple([sums[place] for place in places])


def weigh_smaller(marks, weights, mark):
    """Return the sum of the weights of those whose marks are smaller than this one."""
    return sum([weight for other, weight in zip(marks, weights) if other < mark])


def first_weighted(line, weights, final):
    """Return what a weighted round makes of a line, given its final row."""
    # Nobody from the place of the mark in the final row on is smaller.
    return tuple([weigh_smaller(line[:last], weights, mark) for mark, last in zip(line, final)])


def later_weighted(row, weights, final, sums):
    """Return what a weighted round makes of a row that one has made before, given what it all leads to."""
    # Who adds somebody's weight adds those that this one adds, too: from the first round on no mark falls. So a
    # mark that has come to its last sum stays.
    return tuple([
        mark if mark == most else weigh_smaller(row[:last], weights, mark)
        for mark, most, last in zip(row, sums, final)
    ])


def played_weighted(line, weights):
    """Yield a line and what each weighted round makes of it, up to the first one that changes nothing."""
    yield line
    final = final_marks(line)
    sums = sum_ahead(weights, final)
    if line != sums:
        row = first_weighted(line, weights, final)
        while row != sums:
            yield row
            row = later_weighted(row, weights, final, sums)
        yield sums


def weighted_after(line, weights, *, rounds=1):
    """Return the line after a number of weighted rounds."""
    check_weights(line, weights)
    check_rounds(rounds)
    # Of the persons whom somebody adds at last, the last one is added in each round, and after t rounds so are the
    # first t - 1. So one round less than there are persons, one for a single person, always leads to the end.
    if rounds >= max(1, len(line) - 1):
        return sum_ahead(weights, final_marks(line))
    row = line
    for number, row in enumerate(played_weighted(line, weights)):
        if number == rounds:
            break
    return row


def weighted_final(line, weights):
    """Return the line that repeated weighted rounds lead to."""
    check_weights(line, weights)
    return sum_ahead(weights, final_marks(line))


def weighted_needed(line, weights):
    """Return the least number of weighted rounds after which a further one changes nothing."""
    check_weights(line, weights)
    return len(list(played_weighted(line, weights))) - 1
