"""Books: kinds, totals and notes, what records are worth, and the handlers that keep the totals."""

from sumlives.basics import are_names, is_integer, is_name, is_sequence, is_vector
from sumlives.errors import InvalidBook, InvalidRow, InvalidText, InvalidVector, NoEvent, NoStatement, NoTotal
from sumlives.parts import Event, Handler, Worth, read_event, read_worth
from sumlives.rows import AMOUNTS, Add, If, NewBelow, OldBelow, Put, Was
from sumlives.rows import every_row, innermost, read_row, read_test

# The lines of a text by their first words: those of a lower number stand ahead of those of a higher one.
STAGES = {"rest": 0, "pass": 1, "total": 2, "note": 3, "worth": 4, "event": 5, "on": 6,
          "add": 6, "put": 6, "mark": 6, "if": 6, "else": 6, "end": 6}


def demand(holds, word):
    """Refuses this part of a book if something about it does not hold."""
    if not holds:
        raise InvalidBook(word)


def fits_worth(worth, totals, rests):
    """Whether a worth tells a total and a kind of a book."""
    return worth.total in totals and worth.kind in rests


def fits_event(event, kinds):
    """Whether an event tells kinds of a book."""
    return all([kind == "none" or kind in kinds for kind in [*event.origins, event.kind]])


def fits_row(row, totals, notes, kinds):
    """Whether a row by itself, without those in its blocks, tells totals, notes and kinds of a book."""
    if isinstance(row, Add):
        return row.total in totals and (row.what in AMOUNTS or row.what in notes)
    if isinstance(row, Put):
        return row.note in notes and (row.what in AMOUNTS or row.what in notes)
    if isinstance(row, If):
        test = innermost(row.test)
        return not isinstance(test, Was) or test.kind == "none" or test.kind in kinds
    return True


def are_unlike(names):
    """Whether no name in a list is there twice."""
    return len(set(names)) == len(names)


def are_worths(value, totals, rests):
    """Whether a value can be the worths of a book."""
    return is_sequence(value) and all([isinstance(part, Worth) and fits_worth(part, totals, rests) for part in value])


def are_events(value, kinds):
    """Whether a value can be the events of a book."""
    return (is_sequence(value) and len(value) > 0
            and all([isinstance(part, Event) and fits_event(part, kinds) for part in value])
            and are_unlike([event.name for event in value]))


def are_handlers(value, names):
    """Whether a value can be handlers of events with these names, whatever their rows tell."""
    return (is_sequence(value) and all([isinstance(part, Handler) and part.event in names for part in value])
            and are_unlike([handler.event for handler in value]))


def rows_of(handlers):
    """All rows of these handlers, in the order of their lines."""
    return [row for handler in handlers for row in every_row(handler.rows)]


def statements_in(rows):
    """The statements among these rows and in their blocks."""
    return [row for row in every_row(rows) if isinstance(row, Add)]


def limits_of(worths, rows):
    """The numbers with which these worths and the tests of these rows compare amounts."""
    tests = [innermost(row.test) for row in rows if isinstance(row, If)]
    limits = [test.number for test in tests if isinstance(test, (OldBelow, NewBelow))]
    return limits + [bound for worth in worths for bound in (worth.least, worth.below) if bound is not None]


def with_factors_of(rows, factors):
    """These rows with other factors, which are taken out of the list one after another."""
    out = []
    for row in rows:
        if isinstance(row, Add):
            out.append(Add(factors.pop(0), row.what, row.total, row.place))
        elif isinstance(row, If):
            kept = with_factors_of(row.rows, factors)
            out.append(If(row.test, kept, with_factors_of(row.others, factors)))
        else:
            out.append(row)
    return out


def book_lines(book):
    """The texts of all parts of a book, in order."""
    named = [("rest", book.rests), ("pass", book.passes), ("total", book.totals), ("note", book.notes)]
    lines = [f"{word} {name}" for word, names in named for name in names]
    return lines + [str(part) for part in [*book.worths, *book.events, *book.handlers]]


class Book:
    """All that is told about records, and the handlers."""

    def __init__(self, rests, passes, totals, notes, worths, events, handlers):
        demand(are_names(rests) and len(rests) > 0, "rests")
        demand(are_names(passes) and all([kind not in rests for kind in passes]), "passes")
        demand(are_names(totals) and len(totals) > 0, "totals")
        demand(are_names(notes), "notes")
        demand(are_worths(worths, totals, rests), "worths")
        kinds = [*rests, *passes]
        demand(are_events(events, kinds), "events")
        demand(are_handlers(handlers, [event.name for event in events]), "handlers")
        rows = rows_of(handlers)
        demand(all([fits_row(row, totals, notes, kinds) for row in rows]), "handlers")
        self.rests = tuple(rests)
        self.passes = tuple(passes)
        self.totals = tuple(totals)
        self.notes = tuple(notes)
        self.worths = tuple(worths)
        self.events = tuple(events)
        self.handlers = tuple(handlers)
        self.statements = tuple([row for row in rows if isinstance(row, Add)])
        self.factors = tuple([row.factor for row in self.statements])
        self.cuts = tuple(sorted(set(limits_of(worths, rows))))

    @classmethod
    def read(cls, text):
        """The book of a text."""
        if not isinstance(text, str):
            raise InvalidText(0)
        lines = text.split("\n")
        draft = Draft()
        for at, line in enumerate(lines):
            try:
                draft.take_line(line.split(" "))
            except (InvalidRow, InvalidBook):
                raise InvalidText(at) from None
        if not draft.is_whole():
            raise InvalidText(len(lines))
        handlers = [Handler(event, block.rows) for event, block in draft.blocks_on.items()]
        return cls(draft.rests, draft.passes, draft.totals, draft.notes, draft.worths, draft.events, handlers)

    def check_total(self, name):
        """Refuses what is no total of this book."""
        if name not in self.totals:
            raise NoTotal(name)

    def worth(self, total, kind, amount):
        """What a record of this kind and amount is worth in a total."""
        self.check_total(total)
        worth = self.worth_told(total, kind, amount)
        return 0 if worth is None else worth.of(amount)

    def worth_told(self, total, kind, amount):
        """The worth that counts for a record of this kind and amount in a total, or None."""
        for worth in self.worths:
            if worth.total == total and worth.kind == kind and worth.fits(amount):
                return worth
        return None

    def event_named(self, name):
        """The event of this name, or None."""
        for event in self.events:
            if event.name == name:
                return event
        return None

    def handling(self, name):
        """The rows that are done in an event, and the number of their first statement."""
        number = 0
        for handler in self.handlers:
            if handler.event == name:
                return handler.rows, number
            number += len(statements_in(handler.rows))
        return (), number

    def factors_for(self, total):
        """The factors of the statements of a total, and 0 for all others."""
        self.check_total(total)
        return tuple([row.factor if row.total == total else 0 for row in self.statements])

    def with_factors(self, factors):
        """The book with other factors."""
        if not is_sequence(factors) or not is_vector(tuple(factors), len(self.statements)):
            raise InvalidVector()
        rest = list(factors)
        handlers = [Handler(handler.event, with_factors_of(handler.rows, rest)) for handler in self.handlers]
        return Book(self.rests, self.passes, self.totals, self.notes, self.worths, self.events, handlers)

    def barring(self, names):
        """The book without these events and their handlers."""
        for name in names:
            if self.event_named(name) is None:
                raise NoEvent(name)
        events = [event for event in self.events if event.name not in names]
        handlers = [handler for handler in self.handlers if handler.event not in names]
        return Book(self.rests, self.passes, self.totals, self.notes, self.worths, events, handlers)

    def __len__(self):
        return len(self.statements)

    def __getitem__(self, at):
        if not is_integer(at) or at < 0 or at >= len(self.statements):
            raise NoStatement(at)
        return self.statements[at]

    def __iter__(self):
        raise TypeError("a book is not iterable")

    def __eq__(self, other):
        return isinstance(other, Book) and str(self) == str(other)

    def __str__(self):
        return "\n".join(book_lines(self))


class Block:
    """A handler or a block while its rows are read."""

    def __init__(self, test):
        self.test = test
        self.rows = []
        self.others = []
        self.turned = False

    def take(self, row):
        """Takes the next row."""
        if self.turned:
            self.others.append(row)
        else:
            self.rows.append(row)

    def turn(self):
        """From here on the others are told."""
        demand(not self.turned, "else")
        self.turned = True


class Draft:
    """What the lines of a text have told so far."""

    def __init__(self):
        self.stage = 0
        self.rests = []
        self.passes = []
        self.totals = []
        self.notes = []
        self.worths = []
        self.events = []
        self.blocks_on = {}
        # The rows of the handler that is read, then those of each block in it that has not ended.
        self.blocks = []

    def take_line(self, words):
        """Takes the words of the next line, or refuses them by an InvalidRow or InvalidBook."""
        word = words[0]
        demand(word in STAGES and STAGES[word] >= self.stage, word)
        self.stage = STAGES[word]
        if self.stage < STAGES["worth"]:
            self.take_name(words)
        elif word == "worth":
            worth = read_worth(words)
            demand(fits_worth(worth, self.totals, self.rests), word)
            self.worths.append(worth)
        elif word == "event":
            event = read_event(words)
            demand(fits_event(event, self.kinds()) and event.name not in self.event_names(), word)
            self.events.append(event)
        elif word == "on":
            self.take_handler(words)
        else:
            self.take_row(words)

    def kinds(self):
        """The kinds so far."""
        return self.rests + self.passes

    def event_names(self):
        """The names of the events so far."""
        return [event.name for event in self.events]

    def take_name(self, words):
        """Takes a line that tells a new kind, total or note."""
        word = words[0]
        told = {"rest": self.rests, "pass": self.passes, "total": self.totals, "note": self.notes}
        names = told[word]
        demand(len(words) == 2 and is_name(words[1]) and words[1] not in names, word)
        demand(word != "pass" or words[1] not in self.rests, word)
        names.append(words[1])

    def take_handler(self, words):
        """Takes the first line of a handler."""
        demand(len(words) == 2 and words[1] in self.event_names() and words[1] not in self.blocks_on, "on")
        demand(len(self.blocks) <= 1, "on")
        block = Block(None)
        self.blocks_on[words[1]] = block
        self.blocks = [block]

    def take_row(self, words):
        """Takes a line of a handler."""
        demand(len(self.blocks) > 0, "row")
        if words == ["else"]:
            self.inner().turn()
        elif words == ["end"]:
            block = self.inner()
            self.blocks.pop()
            self.blocks[-1].take(If(block.test, block.rows, block.others))
        elif words[0] == "if":
            test = read_test(words[1:])
            self.check_row(If(test, ()))
            self.blocks.append(Block(test))
        else:
            row = read_row(words)
            self.check_row(row)
            self.blocks[-1].take(row)

    def inner(self):
        """The innermost block that has not ended."""
        demand(len(self.blocks) > 1, "row")
        return self.blocks[-1]

    def check_row(self, row):
        """Refuses a row that tells what there is not."""
        demand(fits_row(row, self.totals, self.notes, self.kinds()), "row")

    def is_whole(self):
        """Whether the text may end here."""
        parts = [self.rests, self.totals, self.events]
        return len(self.blocks) <= 1 and all([len(part) > 0 for part in parts])
