"""One round back: the lines and the codes from which one round leads to a code."""

from countahead.errors import NoNumber
from countahead.orders import sequence_of
from countahead.rows import check_code, is_between, is_code, next_row


def rise(person, after):
    """Return by how much the mark rises at least from a person to the next one in a sequence."""
    return 1 if after > person else 0


def least_at(marks, sequence, at):
    """Return the least mark for the person at a place of a sequence, given the marks of those who come earlier."""
    if at == 0:
        return 0
    before = sequence[at - 1]
    return marks[before] + rise(before, sequence[at])


def least_line(code):
    """Return the line with the least marks that leads to a code."""
    sequence = sequence_of(code)
    marks = [0] * len(sequence)
    for at, person in enumerate(sequence):
        marks[person] = least_at(marks, sequence, at)
    return tuple(marks)


def least_before(code):
    """Return the line with the least marks of at least 0 from which one round leads to the code."""
    check_code(code)
    return least_line(code)


def has_before(code):
    """Return True if one round leads from some code to this one."""
    check_code(code)
    # No line that leads to the code has a lesser mark anywhere than the least one.
    return is_code(least_line(code))


def list_ways(sequence):
    """Return for each place of a sequence, and for its end, in how many ways the marks of a code can go on there.

    Each item tells it for a mark of at least 0, of at least 1, and so on up to the number of persons.
    """
    found = [[1] * (len(sequence) + 1)]
    after = 0
    for person in reversed(sequence):
        later = found[-1]
        step = rise(person, after)
        ways = [0] * len(later)
        many = 0
        # No person of a code has a mark above the place.
        for mark in range(person, -1, -1):
            many += later[mark + step]
            ways[mark] = many
        found.append(ways)
        after = person
    return found[::-1]


def count_before(code):
    """Return from how many codes one round leads to this one."""
    check_code(code)
    return list_ways(sequence_of(code))[0][0]


def nth_before(code, number):
    """Return the code with this number among those from which one round leads to the code."""
    check_code(code)
    sequence = sequence_of(code)
    ways = list_ways(sequence)
    if not is_between(number, 0, ways[0][0] - 1):
        raise NoNumber("there is no code with this number from which one round leads to the code")
    left = number
    marks = [0] * len(sequence)
    for at, person in enumerate(sequence):
        mark = least_at(marks, sequence, at)
        while left >= ways[at][mark] - ways[at][mark + 1]:
            left -= ways[at][mark] - ways[at][mark + 1]
            mark += 1
        marks[person] = mark
    return tuple(marks)


def number_before(code):
    """Return the number of a code among those that lead to the code to which it leads."""
    check_code(code)
    sequence = sequence_of(next_row(code))
    ways = list_ways(sequence)
    number = 0
    for at, person in enumerate(sequence):
        number += ways[at][least_at(code, sequence, at)] - ways[at][code[person]]
    return number
