"""Which comparisons of the marks are certain in all lines that lead to a row."""

from countahead.before import least_line
from countahead.errors import NoPerson
from countahead.forests import list_ends
from countahead.rows import check_code, check_person
from countahead.steps import check_still


def check_pair(line, person, other):
    """Raise NoPerson if these are not two persons of the line."""
    check_person(line, person)
    check_person(line, other)
    if person == other:
        raise NoPerson("a relation is one of two different persons")


def relation_in(row, person, other):
    """Return the relation of two persons that is certain in all lines with this final row, or None."""
    check_still(row)
    check_pair(row, person, other)
    ends = list_ends(row)
    # Somebody has the least mark of the stretch, and among the others there only the elder siblings may share it.
    if row[person] <= other < ends[person]:
        return "<=" if row[person] == row[other] else "<"
    if row[other] <= person < ends[other]:
        return ">=" if row[person] == row[other] else ">"
    return None


def relation_after(code, person, other):
    """Return the relation of two persons that is certain in all lines from which one round leads to the code."""
    check_code(code)
    check_pair(code, person, other)
    least = least_line(code)
    if least[person] != least[other]:
        return "<" if least[person] < least[other] else ">"
    # Between equal least marks the sequence does not rise: those with the greater places come earlier in it.
    return "<=" if person > other else ">="


def certain_pairs(row):
    """Return all pairs of persons of which the first one has the smaller mark in all lines with this final row."""
    check_still(row)
    return [
        (person, other)
        for person, end in enumerate(list_ends(row))
        for other in range(row[person], end)
        if row[other] != row[person]
    ]
