"""The rows of handlers and the tests in them."""

from sumlives.basics import is_integer, is_name, is_sequence, read_number
from sumlives.errors import InvalidRow

DIGITS = 6
AMOUNTS = ("old", "new", "one")


def check(holds, part):
    """Refuses this part if something about it does not hold."""
    if not holds:
        raise InvalidRow(part)


def is_what(value):
    """Whether a value tells what is added or put."""
    return value in AMOUNTS or is_name(value)


def is_kind(value):
    """Whether a value is a kind, or tells that there is no record."""
    return value == "none" or is_name(value)


def are_rows(value):
    """Whether a value is a list or tuple of rows."""
    return is_sequence(value) and all([isinstance(part, Row) for part in value])


class Test:
    """A test of a block; each test is one of the classes below."""


class Was(Test):
    """Whether the kind before the event is this one."""

    def __init__(self, kind):
        check(is_kind(kind), "kind")
        self.kind = kind

    def __eq__(self, other):
        return isinstance(other, Was) and str(self) == str(other)

    def __str__(self):
        return f"was {self.kind}"


class OldBelow(Test):
    """Whether the older amount is less than a number."""

    def __init__(self, number):
        check(is_integer(number), "number")
        self.number = number

    def __eq__(self, other):
        return isinstance(other, OldBelow) and str(self) == str(other)

    def __str__(self):
        return f"old below {self.number}"


class NewBelow(Test):
    """Whether the newer amount is less than a number."""

    def __init__(self, number):
        check(is_integer(number), "number")
        self.number = number

    def __eq__(self, other):
        return isinstance(other, NewBelow) and str(self) == str(other)

    def __str__(self):
        return f"new below {self.number}"


class Moved(Test):
    """Whether the newer group is another one than the older."""

    def __eq__(self, other):
        return isinstance(other, Moved) and str(self) == str(other)

    def __str__(self):
        return "moved"


class Noted(Test):
    """Whether the noted group is the newer one."""

    def __eq__(self, other):
        return isinstance(other, Noted) and str(self) == str(other)

    def __str__(self):
        return "noted"


class Not(Test):
    """Whether a test does not hold."""

    def __init__(self, test):
        check(isinstance(test, Test), "test")
        self.test = test

    def __eq__(self, other):
        return isinstance(other, Not) and str(self) == str(other)

    def __str__(self):
        return f"not {self.test}"


class Row:
    """A row of a handler; each row is one of the classes below."""


class Add(Row):
    """Adds the factor times what is told to the total of a group: a statement."""

    def __init__(self, factor, what, total, place):
        check(is_integer(factor), "factor")
        check(is_what(what), "what")
        check(is_name(total), "total")
        check(place in ("old", "new", "noted"), "place")
        self.factor = factor
        self.what = what
        self.total = total
        self.place = place

    def __eq__(self, other):
        return isinstance(other, Add) and str(self) == str(other)

    def __str__(self):
        return f"add {self.factor} {self.what} {self.total} {self.place}"


class Put(Row):
    """Lets a note be what is told."""

    def __init__(self, note, what):
        check(is_name(note), "note")
        check(is_what(what), "what")
        self.note = note
        self.what = what

    def __eq__(self, other):
        return isinstance(other, Put) and str(self) == str(other)

    def __str__(self):
        return f"put {self.note} {self.what}"


class Mark(Row):
    """Lets the older or newer group be the noted one, or none."""

    def __init__(self, place):
        check(place in ("old", "new", "none"), "place")
        self.place = place

    def __eq__(self, other):
        return isinstance(other, Mark) and str(self) == str(other)

    def __str__(self):
        return f"mark {self.place}"


class If(Row):
    """A block: the rows if the test holds, else the others."""

    def __init__(self, test, rows, others=()):
        check(isinstance(test, Test), "test")
        check(are_rows(rows), "row")
        check(are_rows(others), "row")
        self.test = test
        self.rows = tuple(rows)
        self.others = tuple(others)

    def __eq__(self, other):
        return isinstance(other, If) and str(self) == str(other)

    def __str__(self):
        return "\n".join(block_lines(self))


def block_lines(block):
    """The lines of a block."""
    lines = [f"if {block.test}", *[str(row) for row in block.rows]]
    if block.others:
        lines = [*lines, "else", *[str(row) for row in block.others]]
    return [*lines, "end"]


def every_row(rows):
    """These rows and those in their blocks, in the order of their lines."""
    found = []
    for row in rows:
        found.append(row)
        if isinstance(row, If):
            found.extend(every_row(row.rows))
            found.extend(every_row(row.others))
    return found


def innermost(test):
    """The test within all `not`."""
    return innermost(test.test) if isinstance(test, Not) else test


def number_of(word):
    """The number that a word of a text tells."""
    number = read_number(word, DIGITS)
    check(number is not None, "number")
    return number


def read_test(words):
    """The test that these words tell."""
    if words[:1] == ["not"]:
        return Not(read_test(words[1:]))
    if words == ["moved"]:
        return Moved()
    if words == ["noted"]:
        return Noted()
    if words[:1] == ["was"] and len(words) == 2:
        return Was(words[1])
    if words[:2] == ["old", "below"] and len(words) == 3:
        return OldBelow(number_of(words[2]))
    if words[:2] == ["new", "below"] and len(words) == 3:
        return NewBelow(number_of(words[2]))
    raise InvalidRow("test")


def read_row(words):
    """The row that these words tell, if it is no block."""
    if words[:1] == ["add"] and len(words) == 5:
        return Add(number_of(words[1]), words[2], words[3], words[4])
    if words[:1] == ["put"] and len(words) == 3:
        return Put(words[1], words[2])
    if words[:1] == ["mark"] and len(words) == 2:
        return Mark(words[1])
    raise InvalidRow("row")
