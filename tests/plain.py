"""The rounds, played person by person without the package, and the lines that the tests try."""

import itertools
import random

GREAT = 10 ** 30

# No line, whatever is asked of it: wrong kinds, wrong lengths, wrong marks.
NO_LINES = [
    [5, 1, 2, 4], [], "5 1 2 4", "", b"\x05\x01", None, 0, 5, -1, True, False, 10 ** 99,
    {}, {0: 1}, {5, 1}, frozenset({5}), range(3), object(), int, (), ((),), ((5, 1),), (5, (1,)), (((((1,),),),),),
    (5, [1]), (5, "1"), ("5",), (5, None), (None,), (5, {}), (5, b"1"), (5, range(2)),
    (True,), (False,), (0, True), (5, 1, False, 4), tuple([1] * 59 + [True]),
    tuple(range(61)), (0,) * 61, (0,) * 200, tuple([0] * 60 + ["0"]),
    (GREAT + 1,), (-GREAT - 1,), (0, GREAT + 1), (5, 1, 2, -GREAT - 1), (10 ** 99,), (-10 ** 99, 0),
]

# No person of any line.
NO_PERSONS = [
    -1, -2, -60, 60, 61, 10 ** 99, -10 ** 99, True, False, None, "0", "", "a", b"0",
    (), (0,), ((0,),), [0], [], {}, {0: 0}, {0}, object(), int,
]

NO_ROUNDS = [
    -1, -2, -GREAT, GREAT + 1, 10 ** 99, True, False, None, "1", "", b"1", (), (1,), ((1,),), [1], {}, {1}, object(), int,
]


def is_integer(value):
    return isinstance(value, int) and not isinstance(value, bool)


def plain_counted(line, person):
    found = []
    for ahead in range(len(line)):
        if ahead < person and line[ahead] < line[person]:
            found.append(ahead)
    return found


def plain_round(line):
    marks = []
    for person in range(len(line)):
        many = 0
        for ahead in range(person):
            if line[ahead] < line[person]:
                many += 1
        marks.append(many)
    return tuple(marks)


def plain_rows(line):
    """The line and the rows after 1, 2 .. n + 3 rounds."""
    rows = [line]
    for _ in range(len(line) + 3):
        rows.append(plain_round(rows[-1]))
    return rows


def plain_last(line, person):
    for ahead in range(person - 1, -1, -1):
        if line[ahead] < line[person]:
            return ahead
    return None


def plain_final(line):
    """The final row by its definition, not by rounds."""
    marks = []
    for person in range(len(line)):
        last = plain_last(line, person)
        marks.append(0 if last is None else last + 1)
    return tuple(marks)


def plain_needed(rows):
    """The number of the first of the rows that is followed by the same row."""
    for rounds in range(len(rows) - 1):
        if rows[rounds] == rows[rounds + 1]:
            return rounds
    raise AssertionError("no row of these is still")


def plain_person_rounds(rows, person):
    """The least number such that in that row and in all later ones the person has the mark of the last row."""
    for rounds in range(len(rows)):
        if all(row[person] == rows[-1][person] for row in rows[rounds:]):
            return rounds
    raise AssertionError("the last row is like itself")


def plain_meet(rows, others):
    for rounds in range(len(rows)):
        if rows[rounds] == others[rounds]:
            return rounds
    return None


def slow_line(size):
    """A line that needs size - 1 rounds, for sizes from 2: such as 6 7 8 0 5."""
    return tuple(range(size + 1, 2 * size - 1)) + (0, size)


def five_mark_lines():
    """Each line of 1 to 5 persons with the marks 0 to 4."""
    lines = []
    for size in range(1, 6):
        lines.extend(itertools.product(range(5), repeat=size))
    return lines


def small_lines():
    """Each line of 1 to 5 persons with the marks 0 to 2, and each order of 1 to 5 persons."""
    lines = []
    for size in range(1, 6):
        lines.extend(itertools.product(range(3), repeat=size))
        lines.extend(itertools.permutations(range(size)))
    return lines


def lines_of(size, choose):
    """Lines of one size: of one mark, rising, falling, slow, orders, marks great and small."""
    order = list(range(size))
    choose.shuffle(order)
    lines = [
        (7,) * size,
        tuple(range(size)),
        tuple(range(size, 0, -1)),
        tuple(place // 2 for place in range(size)),
        tuple(order),
        tuple(choose.randint(0, 3) for _ in range(size)),
        tuple(choose.randint(-size, size) for _ in range(size)),
        tuple(choose.randint(-GREAT, GREAT) for _ in range(size)),
        tuple(choose.choice([-GREAT, -GREAT + 1, GREAT - 1, GREAT]) for _ in range(size)),
        tuple(choose.randint(0, place) for place in range(size)),
    ]
    if size > 1:
        lines.append(slow_line(size))
        lines.append(tuple(mark - GREAT for mark in slow_line(size)))
    return lines


def large_lines():
    choose = random.Random(20261119)
    lines = []
    for size in range(1, 61):
        lines.extend(lines_of(size, choose))
    return lines


# Still after 12 rounds; and the slow line of 60 persons with other marks.
SOON_STILL = tuple((place * 37) % 61 - 10 ** 29 for place in range(60))
LATE_STILL = tuple(range(60, 118)) + (0, 2)

ALL_LINES = small_lines() + large_lines()
ALL_ROWS = {line: plain_rows(line) for line in ALL_LINES}
