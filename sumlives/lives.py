"""Lives: what the handlers of a book do in the deeds of one record."""

from sumlives.basics import is_integer, is_name, is_sequence, value_at
from sumlives.errors import InvalidLife
from sumlives.rows import Add, If, Moved, NewBelow, Not, OldBelow, Put, Was


class Record:
    """A record between two deeds."""

    def __init__(self, kind, amount, group, notes, noted):
        self.kind = kind
        self.amount = amount
        self.group = group
        self.notes = notes
        self.noted = noted


def gone(book):
    """A record that is not there."""
    return Record("none", 0, None, (0,) * len(book.notes), None)


def wrong_part(book, kind, name, amount, group):
    """What forbids a deed to a record of this kind: its "event", "amount" or "group", or None if nothing does."""
    event = book.event_named(name)
    if event is None or kind not in event.origins:
        return "event"
    if not (is_integer(amount) if event.amount else amount is None):
        return "amount"
    if not (is_name(group) if event.group else group is None):
        return "group"
    return None


class Happening:
    """An event of a record while the rows of its handler are done."""

    def __init__(self, book, record, event, amount, group):
        self.kind = record.kind
        self.old_amount = record.amount
        self.new_amount = amount if event.amount else record.amount
        if event.kind == "none":
            self.new_amount = 0
        self.new_group = group if event.group else record.group
        self.old_group = self.new_group if record.kind == "none" else record.group
        self.noted = record.noted
        notes = dict(zip(book.notes, record.notes))
        # What the words of rows tell, and the notes beside it: no note is called like one of these words.
        self.figures = {"old": self.old_amount, "new": self.new_amount, "one": 1, **notes}
        # What statements have added: their number, the group, and what was told, without the factor.
        self.told = []

    def group_at(self, place):
        """The group at a place, or None if there is none."""
        if place == "old":
            return self.old_group
        if place == "new":
            return self.new_group
        return self.noted if place == "noted" else None

    def holds(self, test):
        """Whether a test holds now."""
        if isinstance(test, Not):
            return not self.holds(test.test)
        if isinstance(test, Was):
            return self.kind == test.kind
        if isinstance(test, OldBelow):
            return self.old_amount < test.number
        if isinstance(test, NewBelow):
            return self.new_amount < test.number
        if isinstance(test, Moved):
            return self.new_group != self.old_group
        return self.noted == self.new_group

    def follow(self, rows, number, done):
        """Does the rows, or only goes past them; the number is that of the next statement, here and behind them."""
        for row in rows:
            if isinstance(row, If):
                holds = done and self.holds(row.test)
                number = self.follow(row.rows, number, holds)
                number = self.follow(row.others, number, done and not holds)
            elif isinstance(row, Add):
                if done:
                    self.tell(row, number)
                number += 1
            elif done and isinstance(row, Put):
                self.figures[row.note] = self.figures[row.what]
            elif done:
                self.noted = self.group_at(row.place)
        return number

    def tell(self, row, number):
        """Does a statement."""
        group = self.group_at(row.place)
        if group is not None:
            self.told.append((number, group, self.figures[row.what]))


def after(book, record, name, amount, group):
    """The record behind a deed that is possible, and what the statements have added."""
    event = book.event_named(name)
    happening = Happening(book, record, event, amount, group)
    rows, number = book.handling(name)
    happening.follow(rows, number, True)
    if event.kind == "none":
        return gone(book), happening.told
    notes = tuple([happening.figures[note] for note in book.notes])
    return Record(event.kind, happening.new_amount, happening.new_group, notes, happening.noted), happening.told


class Life:
    """What a record and the sums of its groups are behind some deeds."""

    def __init__(self, book, length, record, sums):
        self.kind = record.kind
        self.amount = record.amount
        self.group = record.group
        self.notes = record.notes
        self.noted = record.noted
        self.groups = tuple(sorted([str(group) for group in sums]))
        self._book = book
        self._length = length
        self._nothing = (0,) * len(book)
        self._sums = tuple([tuple(sums[group]) for group in self.groups])

    @property
    def at_rest(self):
        """Whether the record rests or is not there."""
        return self.kind == "none" or self.kind in self._book.rests

    def sums(self, group):
        """For each statement the sum of all that it added to this group, without its factor."""
        return self._sums[self.groups.index(group)] if group in self.groups else self._nothing

    def kept(self, total, group):
        """What the statements have made of this total of this group."""
        return value_at(self._book.factors_for(total), self.sums(group))

    def worth(self, total, group):
        """What the record is worth in this total of this group."""
        worth = self._book.worth(total, self.kind, self.amount)
        return worth if group == self.group else 0

    def off(self, total, group):
        """By how much this total of this group is not what it should be."""
        return self.kept(total, group) - self.worth(total, group)

    def __eq__(self, other):
        return (isinstance(other, Life) and self._length == other._length and self.kind == other.kind
                and self.amount == other.amount and self.group == other.group and self.notes == other.notes
                and self.noted == other.noted and self.groups == other.groups and self._nothing == other._nothing
                and self._sums == other._sums)


def run_life(book, deeds):
    """Does a life."""
    if not is_sequence(deeds):
        raise InvalidLife(0)
    record = gone(book)
    sums = {}
    for at, deed in enumerate(deeds):
        if not isinstance(deed, tuple) or len(deed) != 3 or wrong_part(book, record.kind, *deed) is not None:
            raise InvalidLife(at)
        record, told = after(book, record, *deed)
        if deed[2] is not None:
            sums.setdefault(deed[2], [0] * len(book))
        for number, group, amount in told:
            sums[group][number] += amount
    return Life(book, len(deeds), record, sums)
