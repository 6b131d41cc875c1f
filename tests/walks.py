"""Still rows, codes and orders, walked through one by one without the package."""

import itertools
import random

from tests.plain import GREAT, plain_final, plain_round, slow_line

SIZES = range(1, 7)


def sequence_of(order):
    return sorted(range(len(order)), key=order.__getitem__)


def all_codes(size):
    """In ascending order."""
    return list(itertools.product(*[range(place + 1) for place in range(size)]))


def all_still(size):
    """In ascending order: a still row is a code, since a round makes a code of everything."""
    return [row for row in all_codes(size) if plain_round(row) == row]


def all_orders(size):
    return list(itertools.permutations(range(size)))


def gathered(lines, function):
    """The lines by what the function makes of them."""
    found = {}
    for line in lines:
        found.setdefault(function(line), []).append(line)
    return found


def grouped(lines):
    """The lines by their final row."""
    return gathered(lines, plain_final)


def led(lines):
    """The lines by what a round makes of them."""
    return gathered(lines, plain_round)


STILL = {size: all_still(size) for size in SIZES}
CODES = {size: all_codes(size) for size in SIZES}
ORDERS = {size: all_orders(size) for size in SIZES}
ORDERS_OF = {size: grouped(ORDERS[size]) for size in SIZES}
SMALL_STILL = [row for size in SIZES for row in STILL[size]]
SMALL_ORDERS = [order for size in SIZES for order in ORDERS[size]]


def plain_depth(row, person):
    depth = 0
    while row[person] > 0:
        person = row[person] - 1
        depth += 1
    return depth


def plain_end(row, person):
    for place in range(person + 1, len(row)):
        if row[place] <= person:
            return place
    return len(row)


def plain_brackets(row):
    """By the definition, person by person."""

    def text_of(person):
        return "(" + "".join(text_of(child) for child in range(len(row)) if row[child] == person + 1) + ")"

    return "".join(text_of(person) for person in range(len(row)) if row[person] == 0)


def plain_after(row):
    """The still row of the same size that follows in ascending order, or None."""
    for place in range(len(row) - 1, -1, -1):
        for mark in range(row[place] + 1, place + 1):
            tried = row[:place] + (mark,) + (0,) * (len(row) - place - 1)
            if plain_final(tried) == tried:
                return tried
    return None


def plain_count_orders(row):
    """By the stretches: n! divided by the product of their lengths."""
    many = 1
    for number in range(1, len(row) + 1):
        many *= number
    for person in range(len(row)):
        length = plain_end(row, person) - row[person]
        assert many % length == 0
        many //= length
    return many


def must_wait(row, person):
    """Who comes earlier than the person in the sequence of every order with this final row."""
    found = {row[person] - 1} if row[person] > 0 else set()
    for other in range(person + 1, len(row)):
        if row[other] <= person:
            found.add(other)
    return found


def greedy_order(row, choose):
    """The order whose sequence goes on with the chosen one (min or max) of those who can come next."""
    waits = [must_wait(row, person) for person in range(len(row))]
    order = [None] * len(row)
    done = set()
    for mark in range(len(row)):
        ready = [person for person in range(len(row)) if person not in done and waits[person] <= done]
        order[choose(ready)] = mark
        done.add(choose(ready))
    return tuple(order)


def bushy_still(size):
    """A still row of one root with many children, from the second on each of them at the head of a chain of three."""
    return plain_final((0,) + tuple((2, 3, 1)[place % 3] for place in range(size - 1)))


def large_still():
    choose = random.Random(20261120)
    rows = []
    for size in [7, 12, 30, 59, 60]:
        order = list(range(size))
        choose.shuffle(order)
        rows.extend([
            (0,) * size,
            tuple(range(size)),
            (0,) + (1,) * (size - 1),
            tuple(range(size - 1)) + (0,),
            bushy_still(size),
            plain_final(tuple(order)),
            plain_final(slow_line(size)),
            plain_final(tuple(range(size // 2, size)) + tuple(range(size - size // 2))),
        ])
        for _ in range(6):
            rows.append(plain_final(tuple(choose.randint(-GREAT, GREAT) for _ in range(size))))
            rows.append(plain_final(tuple(choose.randint(0, 4) for _ in range(size))))
            rows.append(plain_final(tuple(choose.randint(place // 2, place + 1) for place in range(size))))
    return rows


LARGE_STILL = large_still()
SOME_STILL = SMALL_STILL + LARGE_STILL

# Lines that a round changes, among them codes and the sizes 1 and 60.
NOT_STILL = [
    (5, 1, 2, 4), (0, 0, 1, 2), (1,), (-1,), (GREAT,), (-GREAT,), (0, 1, 1, 2), (0, 0, 0, 1), (0, 2), (1, 0), (0, -1),
    (0, 0, 0, 2), tuple(range(1, 61)), (0,) * 59 + (1,), (1,) + (0,) * 59, (0,) * 59 + (60,), slow_line(60),
    tuple(range(59)) + (-1,), tuple(range(59)) + (GREAT,),
]

NO_SIZES = [
    0, -1, 61, 62, 10 ** 99, -10 ** 99, True, False, None, "4", "", b"4", (), (4,), ((4,),), [4], [], {}, {4: 4}, {4},
    object(), int,
]

# No number of anything, however much there is.
NO_NUMBERS = [
    -1, -2, -10 ** 99, 10 ** 99, True, False, None, "0", "", b"0", (), (0,), ((0,),), [0], [], {}, {0: 0}, {0},
    object(), int,
]

NO_TEXTS = [
    "", " ", "(", ")", ")(", "(()", "())", "(()))(", "())(()", "()(", "()) ", " ()", "() ", "( )", "()\n", "\n()",
    "() ()", "(.)", "[]", "{}", "(]", "()()x", "x()", "0", "0 0 2 3", "()" * 61, "(" * 61 + ")" * 61, "()" * 2500,
    "(" * 60, ")" * 60, "()" * 60 + "(", "()" * 60 + ")", "()" * 59 + ")(", "(" * 60 + ")" * 59, "(" * 60 + ")" * 61,
    "(" * 5000, b"()", b"", None, 0, 5, -1, True, False, 10 ** 99, (), ("(", ")"), ("()",), (0, 0, 2, 3), ["()"], [],
    ["(", ")"], {}, {"()": 1}, {"()"}, object(), str,
]

NO_CODES = [(1,), (-1,), (0, 2), (0, -1), (5, 1, 2, 4), (0, 1, 3), (0, 0, 0, 4), (GREAT,), (0, 0, GREAT), (0, -GREAT)]
NO_CODES.extend([(0,) * 59 + (60,), tuple(range(59)) + (-1,), (1,) + (0,) * 59, slow_line(60)])

NO_ORDERS = [(1,), (-1,), (0, 0), (1, 1), (0, 2), (1, 2), (1, 2, 3), (0, 1, 1), (0, 1, 3), (-1, 0, 1), (0, 1, GREAT)]
NO_ORDERS.extend([(0,) * 60, tuple(range(1, 61)), tuple(range(59)) + (58,), tuple(range(59)) + (60,), slow_line(60)])
