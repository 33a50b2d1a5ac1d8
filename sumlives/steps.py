"""Steps: what deeds do to records of which no more is known than their states, seen from a watched group.

A state is (kind, class, group, marks): the kind, the number of the class of the amount, the group of the record, and
for each book the noted group. Groups are numbers here: the watched one, then the others in the order in which the state
tells them first, so that states are equal if nothing but the names of their groups differs. No group is None.
"""

from sumlives.lives import Happening, Record

WATCHED = 0
# The first two places of each vector.
ONE = 0
AMOUNT = 1


def amounts_in(cuts, number):
    """Two neighbouring amounts of a class, or the only one that it has."""
    if not cuts:
        return (0, 1)
    if number == 0:
        return (cuts[0] - 1, cuts[0] - 2)
    least = cuts[number - 1]
    if number < len(cuts) and cuts[number] == least + 1:
        return (least,)
    return (least, least + 1)


def each_once(groups):
    """The groups among these, each once, in the order in which they are told first."""
    found = []
    for group in groups:
        if group is not None and group not in found:
            found.append(group)
    return found


def gone_state(many):
    """The state of a record that is not there, for so many books."""
    return "none", 0, None, (None,) * many


def numbered(kind, cut, group, marks):
    """The state of a record that is there, its groups numbered anew."""
    found = each_once([WATCHED, group, *marks])
    return kind, cut, found.index(group), tuple([None if mark is None else found.index(mark) for mark in marks])


class Ground:
    """One book or two with the same events, and what of their lives is reckoned in vectors.

    A vector has the number 1, the amount, the notes of the books (these are its head), then so many numbers to which
    the statements add: `shares` has for each statement of each book the number to which it adds, and how many times.
    """

    def __init__(self, books, shares, many):
        self.books = books
        self.shares = shares
        self.cuts = tuple(sorted(set([cut for book in books for cut in book.cuts])))
        self.head = 2
        self.places = []
        for book in books:
            self.places.append({note: self.head + at for at, note in enumerate(book.notes)})
            self.head += len(book.notes)
        self.width = self.head + many
        self.plans = [(event, [book.handling(event.name) for book in books]) for event in books[0].events]

    def start(self):
        """The vector of a life of no deeds."""
        return (1,) + (0,) * (self.width - 1)

    def amount_at(self, state):
        """Some amount that a record in this state can have."""
        return 0 if state[0] == "none" else amounts_in(self.cuts, state[1])[0]


def bare_ground(book):
    """Nothing is reckoned of what is added."""
    return Ground([book], [[(0, 0)] * len(book)], 0)


def statement_ground(book):
    """The sums of each statement are reckoned."""
    return Ground([book], [[(number, 1) for number in range(len(book))]], len(book))


def total_ground(book):
    """The totals are reckoned."""
    return Ground([book], [[(book.totals.index(row.total), row.factor) for row in book.statements]], len(book.totals))


class Step:
    """An event with a class of new amounts and a new group, at a state: what it makes of the state and of vectors."""

    def __init__(self, event, group, amounts, behind, sources, shifts):
        self.event = event
        # The number of the new group at the state before, and some amounts of the class. (If no group is brought,
        # that is the older one; if no amount is brought, there is one that does not matter.)
        self.group = group
        self.amounts = amounts
        self.behind = behind
        # Where each number of the new head comes from: a place of the older head, behind it the new amount, then 0.
        self.sources = sources
        # Which further numbers are added to: their places, how many times, and where that comes from.
        self.shifts = shifts

    def image(self, vector, amount):
        """The vector behind this step, or a sum of such vectors if the one before is one."""
        head = len(self.sources)
        figures = vector[:head] + (vector[ONE] * amount, 0)
        out = [figures[source] for source in self.sources]
        out.extend(vector[head:])
        for place, times, source in self.shifts:
            out[place] += times * figures[source]
        return tuple(out)

    def look(self):
        """All that this step does, without the event and the group by which it does it."""
        return self.amounts, self.behind, self.sources, self.shifts


def happened(ground, at, state, plan, amount, group):
    """An event as it happens in one of the books, where each figure is the place from which it comes."""
    kind, _, older, marks = state
    event, handlings = plan
    record = Record(kind, ground.amount_at(state), older, (), marks[at])
    happening = Happening(ground.books[at], record, event, amount, group)
    brought = ground.head if event.amount else AMOUNT
    nothing = ground.head + 1
    new = nothing if event.kind == "none" else brought
    happening.figures = {"old": AMOUNT, "new": new, "one": ONE, **ground.places[at]}
    rows, number = handlings[at]
    happening.follow(rows, number, True)
    return happening


def shifts_of(ground, at, happening):
    """What the statements of one of the books add to the numbers of a vector."""
    told = [(ground.shares[at][number], source) for number, group, source in happening.told if group == WATCHED]
    return [(ground.head + place, times, source) for (place, times), source in told if times != 0]


def step_at(ground, state, plan, cut, group):
    """The step of an event by which a record comes to this class and this group."""
    event = plan[0]
    amounts = amounts_in(ground.cuts, cut) if event.amount else (0,)
    happenings = [happened(ground, at, state, plan, amounts[0], group) for at in range(len(ground.books))]
    shifts = tuple([shift for at, happening in enumerate(happenings) for shift in shifts_of(ground, at, happening)])
    if event.kind == "none":
        nothing = ground.head + 1
        return Step(event, group, amounts, gone_state(len(happenings)), (ONE,) + (nothing,) * (ground.head - 1), shifts)
    sources = [ONE, happenings[0].figures["new"]]
    for book, happening in zip(ground.books, happenings):
        sources.extend([happening.figures[note] for note in book.notes])
    behind = numbered(event.kind, cut, group, [happening.noted for happening in happenings])
    return Step(event, group, amounts, behind, tuple(sources), shifts)


def steps_at(ground, state):
    """All steps from a state; of those that do the same only one."""
    kind, older_cut, older, marks = state
    # One number more stands for any group that the state does not tell.
    groups = list(range(len(each_once([WATCHED, older, *marks])) + 1))
    cuts = list(range(len(ground.cuts) + 1))
    found = {}
    for plan in ground.plans:
        event = plan[0]
        if kind in event.origins:
            for cut in cuts if event.amount else [older_cut]:
                for group in groups if event.group else [older]:
                    step = step_at(ground, state, plan, cut, group)
                    found.setdefault(step.look(), step)
    return list(found.values())
