"""Live lines: rounds are played, persons join and leave, marks change, and all of it can be undone."""

from countahead.errors import Full, NoMark, NoOperation, NoPerson, Nothing
from countahead.rows import GREATEST, LEAST, check_line, check_person, check_rounds, final_marks, is_between
from countahead.rows import next_row, row_after
from countahead.still import nth_still

# How many items the operations of a log have, by the first item.
OPERATIONS = {"round": 1, "rounds": 2, "join": 2, "leave": 2, "mark": 3}


def check_mark(mark):
    """Raise NoMark if this is not a mark."""
    if not is_between(mark, LEAST, GREATEST):
        raise NoMark("a mark is an integer from -10 ** 30 to 10 ** 30")


def check_operation(value):
    """Raise NoOperation if this does not have the form of an operation of a log."""
    if not isinstance(value, tuple) or len(value) == 0:
        raise NoOperation("an operation is a tuple that begins with its name")
    # Only a string is looked up: not every value can be a key.
    if not isinstance(value[0], str) or OPERATIONS.get(value[0]) != len(value):
        raise NoOperation("an operation has one of the forms of a log")


def perform(live, operation):
    """Perform an operation on a live line as it is written in a log."""
    word = operation[0]
    if word == "round":
        live.round()
    elif word == "rounds":
        live.rounds(operation[1])
    elif word == "join":
        live.join(operation[1])
    elif word == "leave":
        live.leave(operation[1])
    else:
        live.mark(operation[1], operation[2])


class LiveLine:
    """A line that operations change, and the log of these operations."""

    LIMIT = 60

    def __init__(self, line):
        check_line(line)
        self._line = line
        # The operations that are not undone, each one with the line before it.
        self._past = []

    @classmethod
    def of(cls, *marks):
        """Return a live line with these marks."""
        return cls(marks)

    @classmethod
    def still(cls, size, *, number=0):
        """Return a live line with the still row of this size and number."""
        return cls(nth_still(size, number))

    @property
    def line(self):
        """The present line."""
        return self._line

    @property
    def final(self):
        """The final row of the present line."""
        return final_marks(self._line)

    @property
    def stands(self):
        """True if the present line is still."""
        return final_marks(self._line) == self._line

    def __len__(self):
        return len(self._line)

    def __eq__(self, other):
        return isinstance(other, LiveLine) and self._line == other._line

    def _change(self, operation, line):
        """Put another line in the place of the present one, and the operation in the log."""
        self._past.append((operation, self._line))
        self._line = line

    def round(self):
        """Play a round and return the line after it."""
        self._change(("round",), next_row(self._line))
        return self._line

    def rounds(self, number):
        """Play a number of rounds."""
        check_rounds(number, 1)
        self._change(("rounds", number), row_after(self._line, rounds=number))

    def join(self, mark):
        """Put a new person with this mark at the end."""
        check_mark(mark)
        if len(self._line) >= self.LIMIT:
            raise Full("there are 60 persons in the line")
        self._change(("join", mark), self._line + (mark,))

    def leave(self, person):
        """Take a person out."""
        check_person(self._line, person)
        if len(self._line) == 1:
            raise NoPerson("the only person of a line does not leave")
        self._change(("leave", person), self._line[:person] + self._line[person + 1:])

    def mark(self, person, mark):
        """Give a person another mark."""
        check_person(self._line, person)
        check_mark(mark)
        self._change(("mark", person, mark), self._line[:person] + (mark,) + self._line[person + 1:])

    def undo(self):
        """Revert the last operation that is not undone."""
        if len(self._past) == 0:
            raise Nothing("there is no operation to undo")
        _, self._line = self._past.pop()

    def log(self):
        """Return the operations that are not undone, the first one first."""
        return [operation for operation, _ in self._past]

    def preview(self, *operations):
        """Return what these operations would make of the line."""
        for operation in operations:
            check_operation(operation)
        trial = LiveLine(self._line)
        for operation in operations:
            perform(trial, operation)
        return trial.line
