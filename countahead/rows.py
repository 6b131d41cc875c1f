"""Lines, codes, and the rounds that are played on a line."""

from countahead.errors import NoCode, NoLine, NoPerson, NoRounds

MOST_PERSONS = 60
GREATEST = 10 ** 30


def is_between(value, low, high):
    """Return True if the value is an integer from low to high."""
    # True and False are of the class int, too, but are no integers here.
    return isinstance(value, int) and not isinstance(value, bool) and low <= value <= high


def is_line(value):
    """Return True if the value is a line."""
    if not isinstance(value, tuple) or not 1 <= len(value) <= MOST_PERSONS:
        return False
    return all([is_between(mark, -GREATEST, GREATEST) for mark in value])


def is_code(value):
    """Return True if the value is a line without a mark below 0 or above its place."""
    return is_line(value) and all([0 <= mark <= place for place, mark in enumerate(value)])


def check_line(line):
    """Raise NoLine if this is not a line."""
    if not is_line(line):
        raise NoLine("a line is a tuple of 1 to 60 integers from -10 ** 30 to 10 ** 30")


def check_code(code):
    """Raise NoCode if this is not a code."""
    if not is_code(code):
        raise NoCode("a code is a line in which each mark is at least 0 and at most the place")


def check_person(line, person):
    """Raise NoPerson if this is not a person of the line."""
    if not is_between(person, 0, len(line) - 1):
        raise NoPerson("a person is a place of the line, from 0 at the front")


def check_rounds(rounds):
    """Raise NoRounds if this is not a number of rounds."""
    if not is_between(rounds, 0, GREATEST):
        raise NoRounds("a number of rounds is an integer from 0 to 10 ** 30")


def smaller_ahead(line, person):
    """Return the persons ahead of a person of a line whose mark is smaller, in ascending order."""
    mark = line[person]
    return [ahead for ahead in range(person) if line[ahead] < mark]


def next_row(line):
    """Return what one round makes of a line."""
    return tuple([len(smaller_ahead(line, person)) for person in range(len(line))])


def counted(line, person):
    """Return the persons ahead whose mark is smaller, in ascending order."""
    check_line(line)
    check_person(line, person)
    return smaller_ahead(line, person)


def row_after(line, *, rounds=1):
    """Return the line after a number of rounds."""
    check_line(line)
    check_rounds(rounds)
    row = line
    # As many rounds as there are persons always lead to the final row, so no more are played.
    for _ in range(min(rounds, len(line))):
        row = next_row(row)
    return row


def rows_of(line):
    """Yield the line and what each round makes of it, up to the first still row."""
    check_line(line)
    row = line
    following = next_row(row)
    while following != row:
        yield row
        row = following
        following = next_row(row)
    yield row


def ranks(line):
    """Return the line with each mark replaced by the number of different smaller ones."""
    check_line(line)
    ascending = sorted(set(line))
    return tuple([ascending.index(mark) for mark in line])
