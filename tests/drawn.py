"""All short lives of books, and books and lives that are drawn, to compare with what the program tells of all lives."""

import random

from sumlives.books import Book
from sumlives.lives import run_life
from sumlives.parts import Event, Handler, Worth
from sumlives.rows import Add, If, Mark, Moved, NewBelow, Not, Noted, OldBelow, Put, Was

# A group that no life told here ever had.
NEVER = "zz"


def amounts_of(*books, each=2):
    """So many amounts of each class, or all if it has fewer, for some books together."""
    cuts = sorted({cut for book in books for cut in book.cuts})
    if not cuts:
        return list(range(each))
    found = [cuts[0] - 1 - more for more in range(each)]
    for at, cut in enumerate(cuts):
        behind = cuts[at + 1] if at + 1 < len(cuts) else cut + each
        found.extend(range(cut, min(cut + each, behind)))
    return found


def deeds_of(book, most, amounts=None, groups="abc"):
    """All lives from one to so many deeds, the shorter ones first; the groups are had in their order, as the names of
    groups do not matter."""
    amounts = amounts_of(book) if amounts is None else amounts
    level = [((), "none", 0)]
    for _ in range(most):
        behind = []
        for deeds, kind, had in level:
            for event in book.events:
                if kind in event.origins:
                    for amount in amounts if event.amount else [None]:
                        for at in range(min(had + 1, len(groups))) if event.group else [None]:
                            deed = (event.name, amount, None if at is None else groups[at])
                            behind.append((deeds + (deed,), event.kind, max(had, -1 if at is None else at + 1)))
        yield from [deeds for deeds, _, _ in behind]
        level = behind


def lives_of(book, most, amounts=None, groups="abc"):
    """The same lives with what they come to."""
    return [(deeds, run_life(book, deeds)) for deeds in deeds_of(book, most, amounts, groups)]


def watched_in(life):
    """Each group of a life, and one that it never had."""
    return (*life.groups, NEVER)


def standing_of(book, life, watched):
    """[27], for a life with at least one deed."""
    if life.kind == "none":
        return ("none", 0, False, "none")
    noted = "away"
    if life.noted is None:
        noted = "none"
    elif life.noted == life.group:
        noted = "own"
    elif life.noted == watched:
        noted = "seen"
    return (life.kind, sum(cut <= life.amount for cut in book.cuts), life.group == watched, noted)


def vector_of(life, watched):
    """[28]."""
    return (1, life.amount, *life.notes, *life.sums(watched))


def drawn_book(seed, kinds=2, events=3, notes=1, cuts=1, statements=3, rows=8, totals=1, factors=(-1, 1, 2), draw=None):
    """Some book with so many parts; `draw` is called for each number that is in a test or bounds a worth."""
    rng = random.Random(seed)
    names = ["k", "l", "m"][:kinds]
    rests = names[:rng.randint(1, kinds)]
    told = ["s", "t"][:totals]
    kept = ["n", "p"][:notes]
    limits = sorted(rng.sample([-3, 0, 5, 6, 100] if draw is None else draw, cuts))
    worths = [drawn_worth(rng, told, rests, limits) for _ in range(rng.randint(1, 3))]
    made = [Event("come", ["none"], rng.choice(names), True, True)]
    made += [drawn_event(rng, "e" + "abcdefg"[at], names) for at in range(events - 1)]
    handled = {event.name: [] for event in made}
    whats = ["old", "new", "one", *kept]
    for at in range(rows):
        if at < statements:
            row = Add(rng.choice(factors), rng.choice(whats), rng.choice(told), rng.choice(["old", "new", "noted"]))
        elif kept and rng.random() < 0.5:
            row = Put(rng.choice(kept), rng.choice(whats))
        else:
            row = Mark(rng.choice(["old", "new", "new", "none"]))
        if rng.random() < 0.5:
            test = drawn_test(rng, names, limits)
            row = If(test, [row]) if rng.random() < 0.7 else If(test, [], [row])
        rows_of = handled[rng.choice(made).name]
        rows_of.insert(rng.randint(0, len(rows_of)), row)
    handlers = [Handler(name, rows_of) for name, rows_of in handled.items() if rows_of]
    return Book(rests, names[len(rests):], told, kept, worths, made, handlers)


def drawn_worth(rng, totals, rests, limits):
    """Some worth."""
    least = rng.choice([None, None, *limits])
    below = rng.choice([None, None, *[limit for limit in limits if least is None or limit > least]])
    return Worth(rng.choice(totals), rng.choice(rests), rng.choice([-1, 1, 2]), rng.choice(["amount", "one"]), least,
                 below)


def drawn_event(rng, name, kinds):
    """Some event, mostly one for records that are there."""
    if rng.random() < 0.1:
        return Event(name, ["none"], rng.choice(kinds), True, True)
    kind = rng.choice([*kinds, *kinds, "none"])
    brings = (False, False) if kind == "none" else (rng.random() < 0.5, rng.random() < 0.6)
    return Event(name, rng.sample(kinds, rng.randint(1, len(kinds))), kind, *brings)


def drawn_test(rng, kinds, limits):
    """Some test."""
    tests = [Was(rng.choice([*kinds, "none"])), Moved(), Noted()]
    if limits:
        tests += [OldBelow(rng.choice(limits)), NewBelow(rng.choice(limits))]
    test = rng.choice(tests)
    return Not(test) if rng.random() < 0.3 else test


def drawn_deeds(rng, book, most, amounts, groups="abcd"):
    """Some life of at most so many deeds."""
    kind, deeds = "none", []
    for _ in range(rng.randint(1, most)):
        able = [event for event in book.events if kind in event.origins]
        if able:
            event = rng.choice(able)
            kind = event.kind
            deeds.append((event.name, rng.choice(amounts) if event.amount else None,
                          rng.choice(groups) if event.group else None))
    return tuple(deeds)
