"""A program whose lines are read one after the other."""

from limitrun.grammar import read_whole_expression
from limitrun.tokens import LineReader

MOST_STATES = 60


def read_integer(reader):
    """Read a number, or a "-" and a number."""
    sign = 1
    if reader.peek() == "-":
        reader.take()
        sign = -1
    if reader.peek_kind() != "number":
        reader.refuse(reader.place)
    return sign * int(reader.take())


def read_integer_between(reader, low, high):
    """Read an integer of a range."""
    place = reader.place
    integer = read_integer(reader)
    if not low <= integer <= high:
        reader.refuse(place)
    return integer


def read_rule(reader, low, high):
    """Read the limit rule of a variable with this range."""
    word = reader.peek()
    if word not in ("low", "high", "keep", "set"):
        reader.refuse(reader.place)
    reader.take()
    if word in ("low", "high"):
        return (word,)
    return (word, read_integer_between(reader, low, high))


class ProgramDraft:
    """The items of a program that have been read so far."""

    def __init__(self):
        self.variables = []
        self.names = []
        self.size = 1
        self.halt = None
        self.expressions = {}

    def read_line(self, text, line):
        """Read a line without its comment."""
        reader = LineReader(text, line, self.names)
        if reader.peek_kind() == "end":
            return
        if reader.peek() == "var":
            self.read_variable(reader)
        elif reader.peek() == "halt":
            self.read_halt(reader)
        else:
            self.read_assignment(reader)
        reader.expect_end()

    def read_variable(self, reader):
        """Read the declaration of a variable."""
        if self.halt is not None or self.expressions:
            reader.refuse(reader.place)
        reader.expect("var")
        if reader.peek_kind() != "name" or reader.peek() in self.names:
            reader.refuse(reader.place)
        name = reader.take()
        low, high = self.read_range(reader)
        reader.expect("=")
        start = read_integer_between(reader, low, high)
        reader.expect("limit")
        rule = read_rule(reader, low, high)
        self.names.append(name)
        self.variables.append((name, low, high, start, rule))

    def read_range(self, reader):
        """Read a range that leaves the program with few enough states."""
        low = read_integer(reader)
        reader.expect("..")
        place = reader.place
        high = read_integer(reader)
        if high < low or self.size * (high - low + 1) > MOST_STATES:
            reader.refuse(place)
        self.size *= high - low + 1
        return low, high

    def read_halt(self, reader):
        """Read the halt condition."""
        if self.halt is not None:
            reader.refuse(reader.place)
        reader.expect("halt")
        self.halt = read_whole_expression(reader)

    def read_assignment(self, reader):
        """Read the assignment of a variable."""
        name = reader.peek()
        if name not in self.names or name in self.expressions:
            reader.refuse(reader.place)
        reader.take()
        reader.expect(":=")
        self.expressions[name] = read_whole_expression(reader)

    def parsed(self):
        """Return the parsed form of the program."""
        assignments = []
        for name in self.names:
            if name in self.expressions:
                assignments.append((name, self.expressions[name]))
        return (tuple(self.variables), self.halt, tuple(assignments))
