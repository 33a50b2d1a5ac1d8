"""Alike: whether two books keep the same totals, and a life that parts them."""

from sumlives.deciding import check_statements, rests_at
from sumlives.errors import Mismatch
from sumlives.steps import Ground
from sumlives.walks import GROUPS, deeds_of, first_found


def are_comparable(p, q):
    """Whether two books have the same kinds, totals and events, each in any order."""
    return (set(p.rests) == set(q.rests) and set(p.passes) == set(q.passes) and set(p.totals) == set(q.totals)
            and set([str(event) for event in p.events]) == set([str(event) for event in q.events]))


def shares_in(totals, book, times):
    """For each statement of a book the number of its total, and so many times its factor."""
    return [(totals.index(row.total), times * row.factor) for row in book.statements]


def common_ground(p, q):
    """For each total it is reckoned what the first book keeps less what the second one does."""
    check_statements(p)
    check_statements(q)
    if not are_comparable(p, q):
        raise Mismatch()
    return Ground([p, q], [shares_in(p.totals, p, 1), shares_in(p.totals, q, -1)], len(p.totals))


def totals_parted(ground, visit):
    """The totals of which the books do not keep the same."""
    totals = ground.books[0].totals
    return [total for total, number in zip(totals, visit.vector[ground.head:]) if number != 0]


def first_parted(ground):
    """A life that rests, with the fewest deeds in which a total is parted, or None."""
    book = ground.books[0]
    return first_found(ground, lambda visit: rests_at(book, visit.state) and len(totals_parted(ground, visit)) > 0)


def alike(p, q):
    """Whether two books keep the same in all lives that rest."""
    return first_parted(common_ground(p, q)) is None


def always_alike(p, q):
    """Whether two books keep the same in all lives."""
    ground = common_ground(p, q)
    return first_found(ground, lambda visit: len(totals_parted(ground, visit)) > 0) is None


def parting(p, q):
    """As few deeds as possible, a total and a group of which two books do not keep the same, or None."""
    ground = common_ground(p, q)
    visit = first_parted(ground)
    if visit is None:
        return None
    return deeds_of(ground, visit), totals_parted(ground, visit)[0], GROUPS[0]
