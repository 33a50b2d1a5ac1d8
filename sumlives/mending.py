"""Mending: which statements and which events are to blame, and which statements do not matter."""

from sumlives.basics import is_integer
from sumlives.deciding import check_statements, keeps_right, resting, right_factors
from sumlives.errors import NoStatement
from sumlives.steps import statement_ground
from sumlives.systems import Factors, unit_rows


def choices(parts, many):
    """All choices of so many of the parts, in the order of the parts."""
    if many == 0:
        return [()]
    return [(part, *more) for at, part in enumerate(parts) for more in choices(parts[at + 1:], many - 1)]


def is_within(few, some):
    """Whether all parts of one choice are in another one."""
    return all([part in some for part in few])


def least_choices(parts, most, holds):
    """The choices of at most so many parts for which something holds, as it does not for any part of them.

    What holds for a choice has to hold for it with further parts, too.
    """
    found = []
    for many in range(most + 1):
        for some in choices(parts, many):
            if not any([is_within(few, some) for few in found]) and holds(some):
                found.append(some)
    return tuple(found)


def with_others(factors, numbers):
    """These factors, with any others for the statements of these numbers."""
    units = unit_rows(len(factors))
    return Factors(len(factors), factors, [units[number] for number in numbers])


def least_changes(book, factors):
    """The least sets of statements such that with others for these the factors are right."""
    right = right_factors(book)
    numbers = list(range(len(book)))
    return least_choices(numbers, len(book), lambda some: bool(right & with_others(factors, some)))


def least_mends(book):
    """The least sets of statements with other factors of which the book can be right."""
    return least_changes(book, book.factors)


def mended(book, numbers):
    """Some right book that differs from this one in the factors of these statements alone, or None."""
    check_statements(book)
    for number in numbers:
        if not is_integer(number) or number < 0 or number >= len(book):
            raise NoStatement(number)
    right = right_factors(book) & with_others(book.factors, numbers)
    return book.with_factors(right.point) if right else None


def least_enough(book):
    """The least sets of statements with some factors of which, and 0 for all others, the book is right."""
    return least_changes(book, (0,) * len(book))


def blamed(book):
    """The least sets of events without which the book is right."""
    check_statements(book)
    names = sorted([str(event.name) for event in book.events])
    return least_choices(names, len(names) - 1, lambda some: keeps_right(book.barring(some)))


def idle(book):
    """The numbers of the statements whose factors do not matter."""
    check_statements(book)
    ground = statement_ground(book)
    vectors = [visit.vector[ground.head:] for visit in resting(ground)]
    return tuple([at for at in range(len(book)) if all([vector[at] == 0 for vector in vectors])])
