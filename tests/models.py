"""A live line as a plain list of lines, and operations drawn for it."""

from tests.plain import GREAT, plain_final, plain_round

NO_MARKS = [
    GREAT + 1, -GREAT - 1, 10 ** 99, -10 ** 99, True, False, None, "0", "", "a", b"0", (), (0,), ((0,),), [0], [], {},
    {0: 0}, {0}, object(), int,
]

# No numbers of rounds that are played on a live line.
NO_PLAYED = [
    0, -1, -GREAT, GREAT + 1, 10 ** 99, True, False, None, "1", "", b"1", (), (1,), ((1,),), [1], [], {}, {1: 1}, {1},
    object(), int,
]

NO_OPERATIONS = [
    (), ("undo",), ("line",), ("show",), ("",), ("Round",), ("ROUND",), ("round ",), (" round",), ("rounds ", 1),
    ("round", 1), ("round", None), ("round", ()), ("rounds",), ("rounds", 1, 1), ("join",), ("join", 1, 2), ("leave",),
    ("leave", 0, 0), ("mark",), ("mark", 0), ("mark", 0, 1, 2), ("undo", 1), ("log",), ("preview",), ("of", 1),
    (None,), (True,), (0,), (0, 1), (1, "round"), (b"round",), (("round",),), (["round"],), (["join"], 1), ({}, 1),
    ({"round": 1},), ([],), ((), 1), (object(), 1), (("join", 1), ("join", 2)),
    ["round"], ["join", 1], ["mark", 0, 1], [], [("round",)], "round", "rounds", "", "join 1", b"round", None, 0, 1, True,
    False, 10 ** 99, {}, {"round": 1}, {"round"}, frozenset(["round"]), object(), str,
]


class PlainLive:
    """All lines that there were, the present one last, and the operations between them."""

    def __init__(self, line):
        self.lines = [line]
        self.operations = []

    def after(self, operation):
        """The line after an operation."""
        marks = list(self.lines[-1])
        name = operation[0]
        if name == "round":
            return plain_round(tuple(marks))
        if name == "rounds":
            # More rounds than there are persons make no difference: point 2 (a).
            for _ in range(min(operation[1], 70)):
                marks = list(plain_round(tuple(marks)))
        elif name == "join":
            marks.append(operation[1])
        elif name == "leave":
            marks.pop(operation[1])
        elif name == "mark":
            marks[operation[1]] = operation[2]
        return tuple(marks)

    def perform(self, operation):
        self.lines.append(self.after(operation))
        self.operations.append(operation)

    def undo(self):
        self.lines.pop()
        self.operations.pop()

    def copy(self):
        return PlainLive(self.lines[-1])


def drawn_mark(size, choose):
    return choose.choice([choose.randint(0, 5), choose.randint(-size, size), choose.choice([GREAT, -GREAT, 0])])


def drawn_operation(line, choose):
    """An operation that raises no error on this line."""
    size = len(line)
    names = ["round", "rounds", "mark", "mark"]
    if size < 60:
        names += ["join", "join", "join"]
    if size > 1:
        names += ["leave", "leave"]
    name = choose.choice(names)
    if name == "rounds":
        return (name, choose.choice([1, 2, 3, size, GREAT]))
    if name == "join":
        return (name, drawn_mark(size, choose))
    if name == "leave":
        return (name, choose.randrange(size))
    if name == "mark":
        return (name, choose.randrange(size), drawn_mark(size, choose))
    return (name,)


def drawn_operations(plain, many, choose):
    """Operations that raise no error one after the other, and the line after them."""
    trial = plain.copy()
    operations = []
    for _ in range(many):
        operation = drawn_operation(trial.lines[-1], choose)
        operations.append(operation)
        trial.perform(operation)
    return operations, trial.lines[-1]


def is_plainly_still(line):
    return plain_final(line) == line
