"""A console that executes rows of text on a live line."""

from countahead.errors import NoRow
from countahead.forests import brackets
from countahead.live import OPERATIONS, LiveLine, perform
from countahead.orders import count_orders
from countahead.reading import relation_in
from countahead.rows import row_after
from countahead.steps import rounds_needed
from countahead.still import still_number
from countahead.texts import is_number, read_line, show_line

# What follows the first word of a row: N is a number of rounds and P a person, never with a minus, M is a mark.
FORMS = {
    "round": "",
    "rounds": "N",
    "join": "M",
    "leave": "P",
    "mark": "PM",
    "undo": "",
    "show": "",
    "final": "",
    "after": "N",
    "needed": "",
    "orders": "",
    "brackets": "",
    "number": "",
    "certain": "PP",
}


def fits(word, sign):
    """Return True if a word of a row can stand where its form has this sign."""
    return is_number(word) and (sign == "M" or not word.startswith("-"))


def read_row(row):
    """Return the first word and the numbers of a row as a tuple, as an operation is written in a log."""
    words = row.split(" ")
    form = FORMS.get(words[0])
    if form is None or len(words) != len(form) + 1:
        raise NoRow("a row has one of the forms of the console")
    if not all([fits(word, sign) for word, sign in zip(words[1:], form)]):
        raise NoRow("numbers in a row have 1 to 31 digits, no leading zeros, and a minus only as marks")
    numbers = [int(word) for word in words[1:]]
    return (words[0], *numbers)


def tell_final(row, command):
    """Return what a command tells that asks for no more than the final row."""
    word = command[0]
    if word == "orders":
        return str(count_orders(row))
    if word == "brackets":
        return brackets(row)
    if word == "certain":
        found = relation_in(row, command[1], command[2])
        return "none" if found is None else found
    return show_line(row)


def tell(live, command):
    """Return what a command tells that changes nothing."""
    word = command[0]
    if word == "show":
        return show_line(live.line)
    if word == "after":
        return show_line(row_after(live.line, rounds=command[1]))
    if word == "needed":
        return str(rounds_needed(live.line))
    if word == "number":
        return str(still_number(live.line))
    return tell_final(live.final, command)


def execute(live, command):
    """Execute a command on a live line and return its answer."""
    word = command[0]
    if word == "round":
        return show_line(live.round())
    if word == "undo":
        live.undo()
        return "ok"
    if word in OPERATIONS:
        perform(live, command)
        return "ok"
    return tell(live, command)


class Console:
    """A console with a live line, at first without one."""

    def __init__(self):
        self._live = None

    def say(self, row):
        """Execute a row and return its answer."""
        if not isinstance(row, str) or "\n" in row:
            raise NoRow("a row is a string without a newline")
        if row.startswith("line "):
            self._live = LiveLine(read_line(row.removeprefix("line ")))
            return "ok"
        command = read_row(row)
        if self._live is None:
            raise NoRow("there is no live line yet")
        return execute(self._live, command)
