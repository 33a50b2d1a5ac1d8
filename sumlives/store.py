"""Stores: records by their keys, and totals that the handlers of a book keep."""

from sumlives.basics import is_name
from sumlives.errors import Refused
from sumlives.lives import after, gone, wrong_part


class Contents:
    """What a store holds between two deeds. It does not change, so that a store can go back to it."""

    def __init__(self, records, tallies):
        # The records that are there, by their keys, and what is kept, by total and group.
        self.records = records
        self.tallies = tallies


def done(book, contents, key, event, amount, group):
    """The contents behind a deed for a record, and the kind of the record."""
    if not is_name(key):
        raise Refused("key")
    record = contents.records.get(key, gone(book))
    wrong = wrong_part(book, record.kind, event, amount, group)
    if wrong is not None:
        raise Refused(wrong)
    behind, told = after(book, record, event, amount, group)
    records = {name: contents.records[name] for name in contents.records if name != key}
    if behind.kind != "none":
        records[key] = behind
    tallies = {place: contents.tallies[place] for place in contents.tallies}
    for number, where, figure in told:
        row = book[number]
        place = (row.total, where)
        tallies[place] = tallies.get(place, 0) + row.factor * figure
    return Contents(records, tallies), behind.kind


class Trial:
    """A block behind which a store is as it was ahead of it."""

    def __init__(self, store):
        self.store = store
        self.contents = None
        self.past = ()

    def __enter__(self):
        self.contents = self.store.contents
        self.past = self.store.past
        return self.store

    def __exit__(self, kind, value, trace):
        self.store.contents = self.contents
        self.store.past = self.past


class Store:
    """Records by their keys, and the totals of their groups."""

    def __init__(self, book):
        self.book = book
        self.contents = Contents({}, {})
        # What there was ahead of each deed that can be taken back.
        self.past = ()

    def take(self, contents):
        """Takes what there is behind a deed that can be taken back."""
        self.past = (*self.past, self.contents)
        self.contents = contents

    def do(self, key, event, amount=None, group=None):
        """Does a deed for a record; the kind behind it."""
        contents, kind = done(self.book, self.contents, key, event, amount, group)
        self.take(contents)
        return kind

    def several(self, deeds):
        """Does some deeds, or none of them if one raises an error; the kinds behind them."""
        contents = self.contents
        kinds = []
        for key, event, amount, group in deeds:
            contents, kind = done(self.book, contents, key, event, amount, group)
            kinds.append(kind)
        self.take(contents)
        return tuple(kinds)

    @property
    def names(self):
        """The keys of all records, ascending."""
        return tuple(sorted([str(key) for key in self.contents.records]))

    @property
    def at_rest(self):
        """Whether all records rest."""
        return all([record.kind in self.book.rests for record in self.contents.records.values()])

    def kept(self, total, group):
        """What the handlers have made of this total of this group."""
        self.book.check_total(total)
        return self.contents.tallies.get((total, group), 0)

    def anew(self, total, group):
        """What the records of this group are worth in this total."""
        self.book.check_total(total)
        records = [record for record in self.contents.records.values() if record.group == group]
        return sum([self.book.worth(total, record.kind, record.amount) for record in records])

    def off(self, total, group):
        """By how much this total of this group is not what it should be."""
        return self.kept(total, group) - self.anew(total, group)

    def told_groups(self):
        """The groups of which something is kept, or which have a record, each once."""
        told = [group for _, group in self.contents.tallies]
        return sorted(set(told + [record.group for record in self.contents.records.values()]))

    def recount(self):
        """Lets all totals be what the records are worth, and tells how many of them were off before."""
        places = [(total, group) for total in self.book.totals for group in self.told_groups()]
        wrong = [place for place in places if self.off(place[0], place[1]) != 0]
        self.take(Contents(self.contents.records, {place: self.anew(place[0], place[1]) for place in places}))
        return len(wrong)

    def undo(self):
        """Takes back the last deed that can be taken back; whether there was one."""
        if not self.past:
            return False
        self.contents = self.past[-1]
        self.past = self.past[:-1]
        return True

    def trial(self):
        """A block behind which the store is as it was ahead of it."""
        return Trial(self)

    def within(self, work):
        """Lets work be done at this store in such a block; what the work returns."""
        with self.trial() as store:
            return work(store)

    def __getitem__(self, at):
        if not is_name(at) or at not in self.contents.records:
            raise Refused("key")
        record = self.contents.records[at]
        return record.kind, record.amount, record.group

    def __contains__(self, x):
        return is_name(x) and x in self.contents.records

    def __len__(self):
        return len(self.past)

    def __iter__(self):
        raise TypeError("a store is not iterable")
