"""Orders: the one behind each code, and those with one final row, counted and numbered."""

from math import factorial

from countahead.errors import NoNumber, NoOrder
from countahead.forests import list_ends
from countahead.rows import check_code, is_between, is_line, next_row
from countahead.steps import check_still, final_row


def is_order(value):
    """Return True if the value is a line with the marks from 0 on, each once."""
    return is_line(value) and sorted(value) == list(range(len(value)))


def inverse_of(order):
    """Return the sequence of an order as a list; of a sequence, the marks of the order."""
    found = [0] * len(order)
    for place, mark in enumerate(order):
        found[mark] = place
    return found


def sequence_of(code):
    """Return the sequence of a code as a list."""
    sequence = []
    # The mark tells how many of the persons ahead come earlier in the sequence.
    for person, mark in enumerate(code):
        sequence.insert(mark, person)
    return sequence


def order_of(code):
    """Return the order from which one round leads to the code."""
    check_code(code)
    return tuple(inverse_of(sequence_of(code)))


def list_lengths(row):
    """Return the lengths of the stretches of the persons of a still row."""
    return [end - first for first, end in zip(row, list_ends(row))]


def count_with(lengths):
    """Return the number of orders whose final row has stretches of these lengths."""
    divisor = 1
    for length in lengths:
        divisor *= length
    return factorial(len(lengths)) // divisor


def count_orders(row):
    """Return the number of orders with this final row."""
    check_still(row)
    return count_with(list_lengths(row))


def list_followers(row):
    """Return who may come next in a sequence as soon as a person has: at 0 for the start, at p + 1 for person p."""
    followers = [[] for _ in range(len(row) + 1)]
    youngest = {}
    # In an order an elder sibling has a greater mark than the next younger one, and a child than the parent.
    for person, mark in enumerate(row):
        if mark in youngest:
            followers[person + 1].append(youngest[mark])
        youngest[mark] = person
    for mark in youngest:
        followers[mark].append(youngest[mark])
    return followers


def nth_order(row, number):
    """Return the order with this final row and this number."""
    check_still(row)
    lengths = list_lengths(row)
    many = count_with(lengths)
    if not is_between(number, 0, many - 1):
        raise NoNumber("there is no order with this final row and this number")
    followers = list_followers(row)
    ready = followers[0]
    left = number
    sequence = []
    for rest in range(len(row), 0, -1):
        # Of the sequences that go on from here, the share that begins with a person is the length of the stretch.
        at = 0
        while left >= many * lengths[ready[at]] // rest:
            left -= many * lengths[ready[at]] // rest
            at += 1
        person = ready[at]
        many = many * lengths[person] // rest
        sequence.append(person)
        # Both followers stand in the stretch of the person, so the ready ones stay in ascending order.
        ready[at:at + 1] = followers[person + 1]
    return tuple(inverse_of(sequence))


def order_number(order):
    """Return the number of an order among those with its final row."""
    if not is_order(order):
        raise NoOrder("an order is a line with the marks 0 to n - 1, each once")
    row = final_row(order)
    lengths = list_lengths(row)
    many = count_with(lengths)
    code = next_row(order)
    number = 0
    rest = len(order)
    for person in inverse_of(order):
        # Earlier sequences go on with somebody ahead of the stretch. Of the row[person] persons ahead of it,
        # code[person] have come already, and each other one stands for an equal share of the sequences.
        number += many * (row[person] - code[person]) // rest
        many = many * lengths[person] // rest
        rest -= 1
    return number
