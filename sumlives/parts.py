"""The parts of books: events, worths and handlers."""

from sumlives.basics import are_names, is_integer, is_name, is_sequence
from sumlives.errors import InvalidRow
from sumlives.rows import are_rows, check, is_kind, number_of


def are_origins(value):
    """Whether a value tells the kinds before an event."""
    return is_sequence(value) and (tuple(value) == ("none",) or (len(value) > 0 and are_names(value)))


def may_bring(value, comes, goes):
    """Whether an event that lets a record come, or go, or neither, may tell this of what it brings."""
    return isinstance(value, bool) and (value or not comes) and not (value and goes)


class Event:
    """What can happen to a record."""

    def __init__(self, name, origins, kind, amount=False, group=False):
        check(is_name(name), "name")
        check(are_origins(origins), "origins")
        comes = tuple(origins) == ("none",)
        goes = kind == "none"
        check(is_kind(kind) and not (comes and goes), "kind")
        check(may_bring(amount, comes, goes), "amount")
        check(may_bring(group, comes, goes), "group")
        self.name = name
        self.origins = tuple(origins)
        self.kind = kind
        self.amount = amount
        self.group = group

    def __eq__(self, other):
        return isinstance(other, Event) and str(self) == str(other)

    def __str__(self):
        brought = [word for word, brings in (("amount", self.amount), ("group", self.group)) if brings]
        return " ".join(["event", self.name, *self.origins, "to", self.kind, *brought])


class Worth:
    """What a record of a kind is worth in a total, if its amount is within the bounds."""

    def __init__(self, total, kind, factor, what, least=None, below=None):
        check(is_name(total), "total")
        check(is_name(kind), "kind")
        check(is_integer(factor), "factor")
        check(what in ("amount", "one"), "what")
        check(least is None or is_integer(least), "least")
        check(below is None or is_integer(below), "below")
        check(least is None or below is None or least < below, "below")
        self.total = total
        self.kind = kind
        self.factor = factor
        self.what = what
        self.least = least
        self.below = below

    def __eq__(self, other):
        return isinstance(other, Worth) and str(self) == str(other)

    def __str__(self):
        told = [f"{word} {bound}" for word, bound in (("from", self.least), ("below", self.below)) if bound is not None]
        return " ".join(["worth", self.total, self.kind, str(self.factor), self.what, *told])

    def fits(self, amount):
        """Whether the amount is within the bounds."""
        return (self.least is None or self.least <= amount) and (self.below is None or amount < self.below)

    def of(self, amount):
        """The worth of a record with this amount."""
        return self.factor * amount if self.what == "amount" else self.factor


class Handler:
    """The rows that are done when an event happens."""

    def __init__(self, event, rows=()):
        check(is_name(event), "event")
        check(are_rows(rows), "row")
        self.event = event
        self.rows = tuple(rows)

    def __eq__(self, other):
        return isinstance(other, Handler) and str(self) == str(other)

    def __str__(self):
        return "\n".join([f"on {self.event}", *[str(row) for row in self.rows]])


def read_bounds(words):
    """The bounds that these words tell, each None if it is left out."""
    least = below = None
    if words[:1] == ["from"] and len(words) > 1:
        least = number_of(words[1])
        words = words[2:]
    if words[:1] == ["below"] and len(words) > 1:
        below = number_of(words[1])
        words = words[2:]
    check(words == [], "below")
    return least, below


def read_worth(words):
    """The worth that these words tell."""
    if len(words) < 5:
        raise InvalidRow("what")
    least, below = read_bounds(words[5:])
    return Worth(words[1], words[2], number_of(words[3]), words[4], least, below)


def read_event(words):
    """The event that these words tell."""
    # No name is `to`, so the first one ends the origins.
    at = words.index("to") if "to" in words else len(words)
    if len(words) < at + 2:
        raise InvalidRow("kind")
    told = words[at + 2:]
    check(told in ([], ["amount"], ["group"], ["amount", "group"]), "group")
    return Event(words[1], words[2:at], words[at + 1], "amount" in told, "group" in told)
