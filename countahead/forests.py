"""Still rows as forests: parents, children, roots, depths, stretches, and the text of brackets."""

from countahead.errors import NoText
from countahead.rows import MOST_PERSONS, check_person
from countahead.steps import check_still


def list_depths(row):
    """Return the depths of the persons of a still row as a list."""
    found = []
    for mark in row:
        found.append(found[mark - 1] + 1 if mark > 0 else 0)
    return found


def list_ends(row):
    """Return for each person of a still row where the stretch ends."""
    ends = [person + 1 for person in range(len(row))]
    # From the end of the row: a person's own end is known before it is handed on to the parent.
    for person in reversed(range(len(row))):
        above = row[person] - 1
        if above >= 0:
            ends[above] = max(ends[above], ends[person])
    return ends


def parent(row, person):
    """Return the parent of a person of a still row, or None."""
    check_still(row)
    check_person(row, person)
    return row[person] - 1 if row[person] > 0 else None


def children(row, person):
    """Return the persons with this parent, in ascending order."""
    check_still(row)
    check_person(row, person)
    return [child for child in range(person + 1, len(row)) if row[child] == person + 1]


def roots(row):
    """Return the persons of a still row without a parent, in ascending order."""
    check_still(row)
    return [person for person, mark in enumerate(row) if mark == 0]


def depths(row):
    """Return the depths of the persons of a still row as a tuple."""
    check_still(row)
    return tuple(list_depths(row))


def stretch(row, person):
    """Return where the places among which the person has the least mark begin, and where they end."""
    check_still(row)
    check_person(row, person)
    return (row[person], list_ends(row)[person])


def brackets(row):
    """Return the text of brackets of a still row."""
    check_still(row)
    parts = []
    before = -1
    # The persons stand in the order of their opening brackets: only the closing ones between them are missing.
    for depth in list_depths(row):
        parts.append(")" * (before - depth + 1) + "(")
        before = depth
    parts.append(")" * (before + 1))
    return "".join(parts)


def read_brackets(text):
    """Return the still row with this text of brackets."""
    if not isinstance(text, str) or not 2 <= len(text) <= 2 * MOST_PERSONS:
        raise NoText("the text of a row has 1 to 60 pairs of brackets")
    row = []
    # The marks of the next root and of the next child of each person whose bracket is open, the innermost last.
    marks = [0]
    for sign in text:
        if sign == "(":
            row.append(marks[-1])
            marks.append(len(row))
        elif sign == ")" and len(marks) > 1:
            marks.pop()
        else:
            raise NoText("a text of brackets closes what it opened before, and holds nothing else")
    if len(marks) > 1:
        raise NoText("a text of brackets closes all that it opens")
    return tuple(row)
