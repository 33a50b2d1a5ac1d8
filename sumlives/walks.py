"""Walks: so many lives that their vectors make those of all lives by sums, the ones with fewer deeds first."""

from sumlives.basics import is_zero
from sumlives.lattices import grown, reduced_by
from sumlives.lives import after, gone
from sumlives.steps import each_once, gone_state, steps_at

# The groups of lives that are told; the first one is watched. The records of two books tell four groups at most, so
# that there is always one more.
GROUPS = ("a", "b", "c", "d", "e")


class Visit:
    """A life that is at a state and has a vector, by a step with an amount behind a shorter life."""

    def __init__(self, state, vector, before, step, amount):
        self.state = state
        self.vector = vector
        self.before = before
        self.step = step
        self.amount = amount


class Walk:
    """Goes on from life to life, one deed at a time."""

    def __init__(self, ground):
        self.ground = ground
        # The lives that are needed, those with fewer deeds first, and from how many of them it has gone on.
        self.visits = [Visit(gone_state(len(ground.books)), ground.start(), None, None, 0)]
        self.passed = 0
        # The basis of the vectors of all lives at a state, that of no deeds left out.
        self.bases = {}
        self.steps = {}

    def is_over(self):
        """Whether all lives that are needed are found."""
        return self.passed == len(self.visits)

    def go_on(self):
        """Goes on from the next life by each step; the lives found by this that are needed."""
        visit = self.visits[self.passed]
        self.passed += 1
        # What another amount of the class adds is the same behind each life at this state.
        amounts = 1
        if visit.state not in self.steps:
            self.steps[visit.state] = steps_at(self.ground, visit.state)
            amounts = 2
        found = []
        for step in self.steps[visit.state]:
            for amount in step.amounts[:amounts]:
                vector = step.image(visit.vector, amount)
                if self.is_needed(step.behind, vector):
                    found.append(Visit(step.behind, vector, visit, step, amount))
        self.visits.extend(found)
        return found

    def is_needed(self, state, vector):
        """Takes one more vector at a state; whether it is no sum of those before."""
        basis = self.bases.get(state, ())
        rest = reduced_by(basis, vector)
        if is_zero(rest):
            return False
        self.bases[state] = grown(basis, rest)
        return True

    def found(self):
        """All lives that are needed, that of no deeds left out."""
        return self.visits[1:]


def walked(ground):
    """A walk that is over."""
    walk = Walk(ground)
    while not walk.is_over():
        walk.go_on()
    return walk


def first_found(ground, holds):
    """A life with the fewest deeds for which something holds that is linear in the vectors at a state, or None."""
    walk = Walk(ground)
    while not walk.is_over():
        for visit in walk.go_on():
            if holds(visit):
                return visit
    return None


def way_to(visit):
    """The lives by which this one has come, itself the last one, that of no deeds left out."""
    way = []
    while visit.before is not None:
        way.append(visit)
        visit = visit.before
    return way[::-1]


def deeds_of(ground, visit):
    """The deeds of a life that is found."""
    records = [gone(book) for book in ground.books]
    deeds = []
    for stop in way_to(visit):
        step = stop.step
        known = each_once([GROUPS[0], records[0].group, *[record.noted for record in records]])
        fresh = [group for group in GROUPS if group not in known][0]
        group = known[step.group] if step.event.group and step.group < len(known) else fresh
        deed = (step.event.name, stop.amount if step.event.amount else None, group if step.event.group else None)
        records = [after(book, record, *deed)[0] for book, record in zip(ground.books, records)]
        deeds.append(deed)
    return tuple(deeds)
