"""Lines, codes, and the rounds that are played on a line."""

from countahead.errors import NoCode, NoLine, NoPerson, NoRounds

MOST_PERSONS = 60
GREATEST = 10 ** 30
LEAST = -10 ** 30


def is_integer(value):
    """Return True if the value is an integer."""
    # True and False are of the class int, too, but are no integers here.
    return isinstance(value, int) and not isinstance(value, bool)


def is_between(value, low, high):
    """Return True if the value is an integer from low to high."""
    return is_integer(value) and low <= value <= high


def is_line(value):
    """Return True if the value is a line."""
    if not isinstance(value, tuple) or not 1 <= len(value) <= MOST_PERSONS:
        return False
    for mark in value:
        # Each call of the package comes here, so the usual class is asked for first.
        if type(mark) is not int and not is_integer(mark) or not LEAST <= mark <= GREATEST:
            return False
    return True


def is_code(value):
    """Return True if the value is a line without a mark below 0 or above its place."""
    return is_line(value) and all([0 <= mark <= place for place, mark in enumerate(value)])


def check_line(line):
    """Raise NoLine if this is not a line."""
    if not is_line(line):
        raise NoLine("a line is a tuple of 1 to 60 integers from -10 ** 30 to 10 ** 30")


def check_code(code):
    """Raise NoCode if this is not a code."""
    if not is_code(code):
        raise NoCode("a code is a line in which each mark is at least 0 and at most the place")


def check_person(line, person):
    """Raise NoPerson if this is not a person of the line."""
    if not is_between(person, 0, len(line) - 1):
        raise NoPerson("a person is a place of the line, from 0 at the front")


def check_rounds(rounds, least=0):
    """Raise NoRounds if this is not a number of rounds."""
    if not is_between(rounds, least, GREATEST):
        raise NoRounds(f"a number of rounds is an integer from {least} to 10 ** 30")


def next_row(line):
    """Return what one round makes of a line."""
    found = []
    # The marks of the persons ahead in ascending order: as many are smaller as stand ahead of the own one's place.
    ascending = []
    for mark in line:
        low = 0
        high = len(ascending)
        while low < high:
            middle = (low + high) // 2
            if ascending[middle] < mark:
                low = middle + 1
            else:
                high = middle
        ascending.insert(low, mark)
        found.append(low)
    return tuple(found)


def final_marks(line):
    """Return the final row of a line."""
    found = []
    for person, mark in enumerate(line):
        last = person
        # Those between a person who is not smaller and that person's own last smaller one are not smaller either.
        while last > 0 and line[last - 1] >= mark:
            last = found[last - 1]
        found.append(last)
    return tuple(found)


def count_smaller(marks, mark):
    """Return how many of the marks are smaller than this one."""
    return len([1 for other in marks if other < mark])


def later_row(row, final):
    """Return what one round makes of a row that a round has made before, given its final row."""
    # Who counts somebody counts everybody whom that one counts, too, and so goes on counting that one: from the
    # first round on no mark falls. So a mark that is final stays, and nobody at its place or behind is ever counted.
    return tuple([
        mark if mark == last else count_smaller(row[:last], mark)
        for mark, last in zip(row, final)
    ])


def played(line):
    """Yield a line and what each round makes of it, up to the first still row."""
    yield line
    final = final_marks(line)
    if line != final:
        row = next_row(line)
        while row != final:
            yield row
            row = later_row(row, final)
        yield final


def counted(line, person):
    """Return the persons ahead whose mark is smaller, in ascending order."""
    check_line(line)
    check_person(line, person)
    mark = line[person]
    return [ahead for ahead in range(person) if line[ahead] < mark]


def row_after(line, *, rounds=1):
    """Return the line after a number of rounds."""
    check_line(line)
    check_rounds(rounds)
    # So many rounds, one for a single person, always lead to the final row.
    if rounds >= max(1, len(line) - 1):
        return final_marks(line)
    row = line
    for number, row in enumerate(played(line)):
        if number == rounds:
            break
    return row


def rows_of(line):
    """Yield the line and what each round makes of it, up to the first still row."""
    check_line(line)
    yield from played(line)


def ranks(line):
    """Return the line with each mark replaced by the number of different smaller ones."""
    check_line(line)
    numbers = {mark: number for number, mark in enumerate(sorted(set(line)))}
    return tuple([numbers[mark] for mark in line])
