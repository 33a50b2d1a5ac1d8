"""Papers: tables that show that a book is right, and weights that show that no factors can make it so."""

from math import gcd, lcm

from sumlives.basics import are_vectors, is_integer, is_name, is_zero, pivot_of, value_at
from sumlives.deciding import check_statements, equation, off_at, resting, rests_at, totals_off
from sumlives.errors import InvalidLife
from sumlives.lattices import Lattice, grown, reduced_by
from sumlives.lives import run_life
from sumlives.standings import standing_of, state_of
from sumlives.steps import ONE, gone_state, statement_ground, steps_at, total_ground
from sumlives.systems import Factors, unit_rows
from sumlives.walks import GROUPS, deeds_of, walked


def vanishing(width, rows):
    """Vectors that make by sums all vectors whose products with these rows come to 0."""
    # There may be far more rows than the width, and a basis has the same sums.
    basis = Lattice(width, rows).basis
    return Factors.solving(width, basis, (0,) * len(basis)).basis


def paper(book):
    """A table that shows that the book is right, or None if it is not."""
    check_statements(book)
    ground = total_ground(book)
    walk = walked(ground)
    if any([len(totals_off(ground, visit)) > 0 for visit in walk.found()]):
        return None
    told = sorted(set([standing_of(state) for state in walk.bases]))
    return tuple([(standing, vanishing(ground.width, walk.bases[state_of(standing)])) for standing in told])


def is_told_standing(book, value):
    """Whether a value is a standing with a kind and a class of this book."""
    state = state_of(value)
    if state is None:
        return False
    kind, cut, _, _ = state
    return kind in ("none", *book.rests, *book.passes) and 0 <= cut <= len(book.cuts)


def is_entry(ground, value):
    """Whether a value is a standing with forms."""
    if not isinstance(value, tuple) or len(value) != 2:
        return False
    standing, forms = value
    return (is_told_standing(ground.books[0], standing) and isinstance(forms, tuple)
            and are_vectors(forms, ground.width))


def leads_on(table, step, vectors):
    """Whether the state behind a step is in a table, with forms that are 0 behind it for each vector before it."""
    if step.behind not in table:
        return False
    images = [step.image(vector, amount) for vector in vectors for amount in step.amounts]
    return all([value_at(form, image) == 0 for form in table[step.behind] for image in images])


def holds_at(ground, table, state):
    """Whether the forms of a state in a table give what is asked at this state and behind it."""
    vectors = vanishing(ground.width, table[state])
    # All vectors that begin with 1 lie within the sums of these, and make all of them, if there is one at all.
    if all([vector[ONE] == 0 for vector in vectors]):
        vectors = ()
    book = ground.books[0]
    if rests_at(book, state):
        if any([off_at(ground, total, state, vector) != 0 for total in book.totals for vector in vectors]):
            return False
    if state == gone_state(1):
        return True
    return all([leads_on(table, step, vectors) for step in steps_at(ground, state)])


def paper_holds(book, value):
    """Whether a value is a table that shows that the book is right."""
    check_statements(book)
    ground = total_ground(book)
    if not isinstance(value, tuple) or not all([is_entry(ground, entry) for entry in value]):
        return False
    table = {state_of(standing): Lattice(ground.width, forms).basis for standing, forms in value}
    comings = steps_at(ground, gone_state(1))
    return (len(table) == len(value) and all([leads_on(table, step, [ground.start()]) for step in comings])
            and all([holds_at(ground, table, state) for state in table]))


def needed_equations(ground):
    """Lives that rest, each with a total, and their equations, which make those of all lives that rest by sums."""
    basis = ()
    lives = []
    rows = []
    for visit in resting(ground):
        for total in ground.books[0].totals:
            row = equation(ground, total, visit)
            if not is_zero(reduced_by(basis, row)):
                basis = grown(basis, row)
                lives.append((visit, total))
                rows.append(row)
    return lives, rows


def product_of(numbers):
    """The product of some numbers."""
    product = 1
    for number in numbers:
        product = product * number
    return product


def contradiction(rows, many):
    """How many times to take each equation, and by what to divide, to ask for more than integers can come to.

    The sum has integers for the factors, of which there are so many, and comes to what is no integer. None if there
    are integers that fulfil all equations.
    """
    units = unit_rows(len(rows))
    # Behind each sum of equations it is told how many times each of them is taken.
    basis = Lattice(many + 1 + len(rows), [row + unit for row, unit in zip(rows, units)]).basis
    for row in basis:
        if pivot_of(row) == many:
            return row[many + 1:], 2 * row[many]
    steps = [row for row in basis if pivot_of(row) < many]
    whole = product_of([row[pivot_of(row)] for row in steps])
    # These are all integers that sums of equations with parts of them can have: each is a sum if it is taken `whole`
    # times, and what that comes to has to be so many times an integer.
    for vector in vanishing(many, vanishing(many, [row[:many] for row in steps])):
        rest = reduced_by(steps, tuple([whole * number for number in vector]) + (0,) * (1 + len(rows)))
        if rest[many] % whole != 0:
            return rest[many + 1:], whole
    return None


def weights(book):
    """Weights that show that no factors are right, or None if there are some."""
    check_statements(book)
    ground = statement_ground(book)
    lives, rows = needed_equations(ground)
    found = contradiction(rows, len(book))
    if found is None:
        return None
    times, whole = found
    items = []
    for (visit, total), number in zip(lives, times):
        # Integer weights make integers of integers, so they can be left out.
        part = number % whole
        if part != 0:
            common = gcd(part, whole)
            items.append((part // common, whole // common, deeds_of(ground, visit), total, GROUPS[0]))
    return tuple(items)


def resting_life(book, deeds):
    """The life of these deeds, any value, or None if they are no tuple that is a life that rests."""
    if not isinstance(deeds, tuple):
        return None
    try:
        life = run_life(book, deeds)
    except InvalidLife:
        return None
    return life if life.at_rest else None


def is_item(book, value):
    """Whether a value is a weight with a life, a total and a group."""
    if not isinstance(value, tuple) or len(value) != 5:
        return False
    part, whole, deeds, total, group = value
    return (is_integer(part) and is_integer(whole) and whole >= 1 and total in book.totals and is_name(group)
            and resting_life(book, deeds) is not None)


def weighed_equation(book, item, whole):
    """The equation of an item, so many times its weight."""
    part, own_whole, deeds, total, group = item
    life = resting_life(book, deeds)
    times = part * (whole // own_whole)
    sums = [number if row.total == total else 0 for row, number in zip(book.statements, life.sums(group))]
    return [times * number for number in [*sums, life.worth(total, group)]]


def weights_hold(book, value):
    """Whether a value is weights that show that no factors are right."""
    check_statements(book)
    if not isinstance(value, tuple) or not all([is_item(book, item) for item in value]):
        return False
    whole = 1
    for item in value:
        whole = lcm(whole, item[1])
    rows = [weighed_equation(book, item, whole) for item in value]
    sums = [sum([row[at] for row in rows]) for at in range(len(book) + 1)]
    return all([number % whole == 0 for number in sums[:-1]]) and sums[-1] % whole != 0
