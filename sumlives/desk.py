"""Desks: they answer commands about one book and its store."""

from sumlives.basics import is_name, read_number, written
from sumlives.books import Book
from sumlives.deciding import divisor, right_factors, wrong_life
from sumlives.errors import InvalidCommand
from sumlives.mending import blamed, least_enough, least_mends
from sumlives.store import Store

DIGITS = 9


def told_sets(sets):
    """The text of least sets of numbers or names."""
    if not sets:
        return "never"
    return " or ".join([written(some) if some else "nothing" for some in sets])


def tell_right(store, words):
    """The answer to `right`."""
    found = wrong_life(store.book)
    return "yes" if found is None else f"no {len(found[0])}"


def tell_factors(store, words):
    """The answer to `factors`."""
    return str(right_factors(store.book))


def tell_mends(store, words):
    """The answer to `mends`."""
    return told_sets(least_mends(store.book))


def tell_enough(store, words):
    """The answer to `enough`."""
    return told_sets(least_enough(store.book))


def tell_blame(store, words):
    """The answer to `blame`."""
    return told_sets(blamed(store.book))


def tell_divisor(store, words):
    """The answer to `divisor TOTAL`."""
    return str(divisor(store.book, words[1]))


def do_deed(store, words):
    """The answer to `do KEY EVENT AMOUNT GROUP`."""
    amount = None if words[3] == "-" else read_number(words[3], DIGITS)
    group = None if words[4] == "-" else words[4]
    return store.do(words[1], words[2], amount, group)


def tell_kept(store, words):
    """The answer to `kept TOTAL GROUP`."""
    return str(store.kept(words[1], words[2]))


def tell_anew(store, words):
    """The answer to `anew TOTAL GROUP`."""
    return str(store.anew(words[1], words[2]))


def undo_deed(store, words):
    """The answer to `undo`."""
    return "undone" if store.undo() else "nothing"


ANSWERS = {"right": tell_right, "factors": tell_factors, "mends": tell_mends, "enough": tell_enough,
           "blame": tell_blame, "divisor": tell_divisor, "do": do_deed, "kept": tell_kept, "anew": tell_anew,
           "undo": undo_deed}
# The numbers of words of these commands.
LENGTHS = {"right": 1, "factors": 1, "mends": 1, "enough": 1, "blame": 1, "divisor": 2, "do": 5, "kept": 3, "anew": 3,
           "undo": 1}


def is_command(words):
    """Whether these words have the form of a command."""
    word = words[0]
    if "" in words:
        return False
    if word == "book":
        return len(words) > 1
    if word not in LENGTHS or len(words) != LENGTHS[word]:
        return False
    if word == "do":
        return words[3] == "-" or read_number(words[3], DIGITS) is not None
    return word not in ("kept", "anew") or is_name(words[2])


class Desk:
    """Answers commands."""

    def __init__(self):
        # The store of the book that is kept, if there is one.
        self.store = None

    def say(self, command):
        """The answer to a command."""
        if not isinstance(command, str) or "\n" in command:
            raise InvalidCommand()
        words = command.split(" ")
        if not is_command(words):
            raise InvalidCommand()
        if words[0] == "book":
            return self.take_book(" ".join(words[1:]))
        if self.store is None:
            raise InvalidCommand()
        answer = ANSWERS[words[0]]
        return answer(self.store, words)

    def take_book(self, text):
        """The answer to `book TEXT`."""
        book = Book.read(text.replace(" ; ", "\n"))
        self.store = Store(book)
        return f"{len(book)} statements"

    def __len__(self):
        if self.store is None:
            return 0
        return len(self.store)
