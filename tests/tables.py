"""[36] to [38] told a second time, from the texts of books and with fractions, to compare the program with."""

from fractions import Fraction

from tests.reference import lived


class Reading:
    """What the lines of a book tell."""

    def __init__(self, text):
        lines = [line.split(" ") for line in text.split("\n")]
        self.lines = lines
        self.rests = [words[1] for words in lines if words[0] == "rest"]
        self.totals = [words[1] for words in lines if words[0] == "total"]
        self.notes = [words[1] for words in lines if words[0] == "note"]
        self.events = [words for words in lines if words[0] == "event"]
        told = [words[-1] for words in lines if words[0] == "if" and words[-2] == "below"]
        told += [words[at + 1] for words in lines if words[0] == "worth" for at in range(5, len(words), 2)]
        self.cuts = sorted({int(word) for word in told})
        self.width = 2 + len(self.notes) + len(self.totals)

    def class_of(self, amount):
        return sum(cut <= amount for cut in self.cuts)

    def amounts(self, number):
        """Some amounts of a class; all of them if there are few."""
        if not self.cuts:
            return [-5, 0, 7]
        if number == 0:
            return [self.cuts[0] - more for more in (1, 2, 9)]
        least = self.cuts[number - 1]
        behind = self.cuts[number] if number < len(self.cuts) else least + 10
        return [amount for amount in (least, least + 1, least + 2, behind - 1) if amount < behind]

    def worth(self, total, kind, number, amount):
        """What a record of this class and with this amount is worth; the amount may be any number."""
        for words in self.lines:
            if words[:3] == ["worth", total, kind]:
                bounds = dict(zip(words[5::2], map(int, words[6::2])))
                least = "from" not in bounds or number > self.cuts.index(bounds["from"])
                below = "below" not in bounds or number <= self.cuts.index(bounds["below"])
                if least and below:
                    return int(words[3]) * (amount if words[4] == "amount" else 1)
        return 0

    def behind(self, event, state, vector, number, amount, to):
        """The state and the kept vector behind an event. A state is (kind, class, group, noted group), W is watched."""
        kind, older, group, noted = state
        into = event[event.index("to") + 1]
        where = {"new": to, "old": to if kind == "none" else group, "none": None}
        classes = {"old": self.class_of(0) if kind == "none" else older, "new": number}
        now = {"one": Fraction(1), "old": vector[1], "new": amount}
        if into == "none":
            classes["new"], now["new"] = self.class_of(0), Fraction(0)
        notes = dict(zip(self.notes, vector[2:]))
        kept = dict(zip(self.totals, vector[2 + len(self.notes):]))
        on, done = None, []
        for words in self.lines:
            on = words[1] if words[0] == "on" else on
            if words[0] == "if":
                name = words[-3] if words[-2] == "below" else words[-2] if words[-2] == "was" else words[-1]
                if name in ("old", "new"):
                    holds = classes[name] <= self.cuts.index(int(words[-1]))
                else:
                    holds = {"was": kind == words[-1], "moved": where["old"] != where["new"],
                             "noted": noted is not None and noted == where["new"]}[name]
                done.append(holds != (words.count("not") % 2 == 1))
            elif words[0] == "else":
                done[-1] = not done[-1]
            elif words[0] == "end":
                done.pop()
            elif on == event[1] and all(done):
                if words[0] == "put":
                    notes[words[1]] = {**now, **notes}[words[2]]
                elif words[0] == "mark":
                    noted = where[words[1]]
                elif words[0] == "add" and (noted if words[4] == "noted" else where[words[4]]) == "W":
                    kept[words[3]] += int(words[1]) * {**now, **notes}[words[2]]
        if into == "none":
            return ("none", 0, None, None), [vector[0], Fraction(0), *[Fraction(0)] * len(notes), *kept.values()]
        return (into, number, to, noted), [vector[0], now["new"], *notes.values(), *kept.values()]

    def steps(self, state):
        """Each event that is possible with each class and each new group, as the event, the amounts and the group."""
        kind, number, group, noted = state
        for event in self.events:
            at = event.index("to")
            if kind in event[2:at]:
                groups = ["W", "X", *[some for some in (group, noted) if some]] if "group" in event[at:] else [group]
                for to in groups:
                    if "amount" in event[at:]:
                        for other in range(len(self.cuts) + 1):
                            yield event, other, self.amounts(other), to
                    else:
                        yield event, number, [None], to


def state_of(standing):
    """The state of a standing, with a letter for each group."""
    kind, number, own, noted = standing
    group = None if kind == "none" else "W" if own else "G"
    return kind, number, group, {"none": None, "own": group, "seen": "W", "away": "N"}[noted]


def standing_of(state):
    kind, number, group, noted = state
    word = "none" if noted is None else "own" if noted == group else "seen" if noted == "W" else "away"
    return kind, number, group == "W", word


def solutions(forms, width):
    """Some vectors that begin with 1 and at which all forms are 0; all others lie on the lines through them."""
    rows = [[Fraction(number) for number in form] for form in forms]
    pivots = []
    for at in range(1, width):
        found = [row for row in rows[len(pivots):] if row[at]]
        if found:
            rows.remove(found[0])
            rows.insert(len(pivots), found[0])
            rows = [row if row is found[0] else [a - row[at] / found[0][at] * b for a, b in zip(row, found[0])]
                    for row in rows]
            pivots.append(at)
    if any(row[0] for row in rows[len(pivots):]):
        return []
    free = [at for at in range(1, width) if at not in pivots]
    told = []
    for some in [None, *free]:
        vector = [Fraction(int(at in (0, some))) for at in range(width)]
        for at, row in zip(pivots, rows):
            vector[at] = -sum(row[place] * vector[place] for place in (0, *free)) / row[at]
        told.append(vector)
    return told


def table_is_right(text, table):
    """Whether a table, which is put together as it should be, is right."""
    book = Reading(text)
    forms = dict(table)
    if len(forms) < len(table):
        return False

    def leads_on(state, vectors):
        for event, number, amounts, to in book.steps(state):
            for vector in vectors or [None]:
                for amount in amounts:
                    before = [Fraction(0)] * book.width if vector is None else vector
                    new = before[1] if amount is None else Fraction(amount)
                    after, image = book.behind(event, state, before, number, new, to)
                    if standing_of(after) not in forms:
                        return False
                    for form in forms[standing_of(after)] if vector is not None else ():
                        if sum(a * b for a, b in zip(form, image)):
                            return False
        return True

    if not leads_on(("none", 0, None, None), [[Fraction(int(at == 0)) for at in range(book.width)]]):
        return False
    for standing, told in table:
        vectors = solutions(told, book.width)
        kind, number, own, _ = standing
        if kind == "none" or kind in book.rests:
            for vector in vectors:
                for total, kept in zip(book.totals, vector[2 + len(book.notes):]):
                    if kept != (book.worth(total, kind, number, vector[1]) if own else 0):
                        return False
        if kind != "none" and not leads_on(state_of(standing), vectors):
            return False
    return True


def weights_are_right(text, items):
    """Whether items of lives that rest are right weights."""
    book = Reading(text)
    adds = [words for words in book.lines if words[0] == "add"]
    sums, right = [Fraction(0)] * len(adds), Fraction(0)
    for part, whole, deeds, total, group in items:
        kind, amount, own, _, _, added = lived(text, deeds)
        times = Fraction(part, whole)
        for at, words in enumerate(adds):
            if words[3] == total:
                sums[at] += times * added.get(group, (0,) * len(adds))[at]
        if own == group and kind != "none":
            right += times * book.worth(total, kind, book.class_of(amount), amount)
    return all(number.denominator == 1 for number in sums) and right.denominator != 1
