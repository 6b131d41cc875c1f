"""The final row of a line, and the rounds that lead to it."""

from countahead.errors import NotAlike, NotStill
from countahead.rows import check_line, check_person, final_marks, later_row, next_row, played


def final_mark(line, person):
    """Return the mark of one person of a line in the final row."""
    mark = line[person]
    last = person
    while last > 0 and line[last - 1] >= mark:
        last -= 1
    return last


def last_smaller(line, person):
    """Return the last person ahead with a smaller mark, or None."""
    check_line(line)
    check_person(line, person)
    last = final_mark(line, person)
    return last - 1 if last > 0 else None


def final_row(line):
    """Return the row that repeated rounds lead to."""
    check_line(line)
    return final_marks(line)


def is_still(line):
    """Return True if a round does not change the line."""
    check_line(line)
    return final_marks(line) == line


def check_still(row):
    """Raise NoLine if this is not a line, NotStill if it is one that a round changes."""
    if not is_still(row):
        raise NotStill("a round changes this line")


def play_waiting(waiting, marks, final):
    """Return the marks of the persons who wait after a round, by person."""
    # Each of these, too, waits for nobody but others of them, and has the final mark but for the number of those.
    return {
        person: final[person] - len([
            1 for other in waiting if other < final[person] and marks[other] >= marks[person]
        ])
        for person in waiting
    }


def person_rounds(line, person):
    """Return the least number of rounds from which on the person has the final mark."""
    check_line(line)
    check_person(line, person)
    mark = line[person]
    last = final_mark(line, person)
    # The persons whom this one does not count yet, but in the final row. Who is counted once is counted from then on.
    waiting = [ahead for ahead in range(last) if line[ahead] >= mark]
    if not waiting:
        return 0 if mark == last else 1
    final = final_marks(line[:last])
    marks = line
    rounds = 1
    while waiting:
        mark = last - len(waiting)
        marks = play_waiting(waiting, marks, final)
        waiting = [ahead for ahead in waiting if marks[ahead] >= mark]
        rounds += 1
    return rounds


def rounds_needed(line):
    """Return the least number of rounds after which the line is still."""
    check_line(line)
    return len(list(played(line))) - 1


def meet(line, other):
    """Return the least number of rounds after which two lines are equal, or None."""
    check_line(line)
    check_line(other)
    if len(line) != len(other):
        raise NotAlike("the two lines have different lengths")
    # Equal rows stay equal, so lines with different final rows never meet, and all others do.
    final = final_marks(line)
    if final_marks(other) != final:
        return None
    if line == other:
        return 0
    rounds = 1
    row = next_row(line)
    beside = next_row(other)
    while row != beside:
        row = later_row(row, final)
        beside = later_row(beside, final)
        rounds += 1
    return rounds
