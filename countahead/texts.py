"""Lines as texts: the marks from the front to the end, separated by single spaces."""

from countahead.errors import NoText
from countahead.rows import check_line, is_line

MOST_DIGITS = 31


def is_number(word):
    """Return True if the word is a decimal number of 1 to 31 digits, written in the one way that there is."""
    digits = word.removeprefix("-")
    if not 1 <= len(digits) <= MOST_DIGITS or not digits.isascii() or not digits.isdigit():
        return False
    return str(int(word)) == word


def show_line(line):
    """Return the text of the line."""
    check_line(line)
    return " ".join([str(mark) for mark in line])


def read_line(text):
    """Return the line with this text."""
    if not isinstance(text, str):
        raise NoText("a text is a string")
    words = text.split(" ")
    if not all([is_number(word) for word in words]):
        raise NoText("the text of a line is numbers without leading zeros, separated by single spaces")
    line = tuple([int(word) for word in words])
    if not is_line(line):
        raise NoText("the text of a line has 1 to 60 numbers from -10 ** 30 to 10 ** 30")
    return line
