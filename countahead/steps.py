"""The final row of a line, and the rounds that lead to it."""

from countahead.errors import NotAlike, NotStill
from countahead.rows import check_line, check_person, next_row, rows_of, smaller_ahead


def final_mark(line, person):
    """Return the mark of a person of a line in the final row."""
    ahead = smaller_ahead(line, person)
    return ahead[-1] + 1 if ahead else 0


def last_smaller(line, person):
    """Return the last person ahead with a smaller mark, or None."""
    check_line(line)
    check_person(line, person)
    ahead = smaller_ahead(line, person)
    return ahead[-1] if ahead else None


def final_row(line):
    """Return the row that repeated rounds lead to."""
    check_line(line)
    return tuple([final_mark(line, person) for person in range(len(line))])


def is_still(line):
    """Return True if a round does not change the line."""
    check_line(line)
    return next_row(line) == line


def check_still(row):
    """Raise NoLine if this is not a line, NotStill if it is one that a round changes."""
    if not is_still(row):
        raise NotStill("a round changes this line")


def person_rounds(line, person):
    """Return the least number of rounds from which on the person has the final mark."""
    check_line(line)
    check_person(line, person)
    marks = [row[person] for row in rows_of(line)]
    rounds = len(marks) - 1
    # From the end: the mark may equal the final one, change, and come back to it.
    while rounds > 0 and marks[rounds - 1] == marks[-1]:
        rounds -= 1
    return rounds


def rounds_needed(line):
    """Return the least number of rounds after which the line is still."""
    check_line(line)
    return len(list(rows_of(line))) - 1


def meet(line, other):
    """Return the least number of rounds after which two lines are equal, or None."""
    check_line(line)
    check_line(other)
    if len(line) != len(other):
        raise NotAlike("the two lines have different lengths")
    # Equal rows stay equal, so lines with different final rows never meet, and all others do.
    if final_row(line) != final_row(other):
        return None
    rounds = 0
    row = line
    beside = other
    while row != beside:
        row = next_row(row)
        beside = next_row(beside)
        rounds += 1
    return rounds
