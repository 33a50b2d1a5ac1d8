"""Deciding: whether a book is right, with which factors it would be, and how it is wrong."""

from math import gcd

from sumlives.errors import Mismatch
from sumlives.lattices import grown
from sumlives.steps import AMOUNT, ONE, WATCHED, statement_ground, total_ground
from sumlives.systems import Factors
from sumlives.walks import GROUPS, deeds_of, first_found, walked


def check_statements(book):
    """Refuses a book without statements."""
    if len(book) == 0:
        raise Mismatch()


def rests_at(book, state):
    """Whether a record in this state rests."""
    return state[0] == "none" or state[0] in book.rests


def worth_at(ground, total, state, vector):
    """What a record is worth in this total of the watched group."""
    kind, _, group, _ = state
    worth = ground.books[0].worth_told(total, kind, ground.amount_at(state))
    if worth is None or group != WATCHED:
        return 0
    return worth.factor * vector[AMOUNT if worth.what == "amount" else ONE]


def off_at(ground, total, state, vector):
    """By how much this total of the watched group is off; the ground is one of totals."""
    kept = vector[ground.head + ground.books[0].totals.index(total)]
    return kept - worth_at(ground, total, state, vector)


def equation(ground, total, visit):
    """The sums of the statements of a total, 0 for all others, and what these sums should come to."""
    book = ground.books[0]
    sums = visit.vector[ground.head:]
    told = [number if row.total == total else 0 for row, number in zip(book.statements, sums)]
    return (*told, worth_at(ground, total, visit.state, visit.vector))


def resting(ground):
    """Lives that rest, whose vectors make those of all that rest by sums."""
    return [visit for visit in walked(ground).found() if rests_at(ground.books[0], visit.state)]


def right_factors(book):
    """All factors of the statements with which the book is right."""
    check_statements(book)
    ground = statement_ground(book)
    basis = ()
    for visit in resting(ground):
        for total in book.totals:
            basis = grown(basis, equation(ground, total, visit))
    return Factors.solving(len(book), [row[:-1] for row in basis], [row[-1] for row in basis])


def totals_off(ground, visit):
    """The totals of the watched group that are off though the record rests."""
    book = ground.books[0]
    if not rests_at(book, visit.state):
        return []
    return [total for total in book.totals if off_at(ground, total, visit.state, visit.vector) != 0]


def first_wrong(ground):
    """A life with the fewest deeds in which a total is off, or None."""
    return first_found(ground, lambda visit: len(totals_off(ground, visit)) > 0)


def keeps_right(book):
    """Whether a book is right, also if it has no statements."""
    return first_wrong(total_ground(book)) is None


def is_right(book):
    """Whether the book is right."""
    check_statements(book)
    return keeps_right(book)


def divisor(book, total):
    """The greatest integer that divides all errors of a total, 0 if there are none."""
    check_statements(book)
    book.check_total(total)
    ground = total_ground(book)
    most = 0
    for visit in resting(ground):
        most = gcd(most, off_at(ground, total, visit.state, visit.vector))
    return most


def wrong_life(book):
    """As few deeds as possible, a total and a group that is off behind them, or None if the book is right."""
    check_statements(book)
    ground = total_ground(book)
    visit = first_wrong(ground)
    if visit is None:
        return None
    return deeds_of(ground, visit), totals_off(ground, visit)[0], GROUPS[0]
