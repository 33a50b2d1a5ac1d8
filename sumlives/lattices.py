"""Lattices: all sums of integer multiples of some vectors of one width."""

from math import gcd

from sumlives.basics import added, is_zero, pivot_of, value_at, written
from sumlives.basics import are_vectors, is_vector, is_width
from sumlives.errors import InvalidVector, Mismatch


def reduced_by(basis, vector):
    """The vector less a sum of basis rows, such that its number at each pivot is from 0 to the pivot less 1."""
    for row in basis:
        at = pivot_of(row)
        vector = added(vector, -(vector[at] // row[at]), row)
    return vector


def cleared(row, vector, at):
    """Two vectors with the same sums as these two, the second one with 0 at this place."""
    while vector[at] != 0:
        row, vector = vector, added(row, -(row[at] // vector[at]), vector)
    return row, vector


def stepped(steps, vector):
    """Vectors with the sums of these steps and one more vector, each pivot further right again."""
    out = []
    left = vector
    for row in steps:
        at = pivot_of(row)
        if pivot_of(left) < at:
            out.append(left)
            left = row
        else:
            kept, left = cleared(row, left, at)
            out.append(kept)
    if not is_zero(left):
        out.append(left)
    return out


def positive(row):
    """The row or its negative, that one whose pivot is positive."""
    return row if row[pivot_of(row)] > 0 else added(row, -2, row)


def tidied(steps):
    """The one basis that has the same sums as these steps."""
    out = []
    # From the last row on, because a row is reduced by those behind it, and these have to be ready by then.
    for row in steps[::-1]:
        out = [reduced_by(out, positive(row)), *out]
    return tuple(out)


def grown(basis, vector):
    """The basis of all sums of a basis and one more vector."""
    rest = reduced_by(basis, vector)
    if is_zero(rest):
        return basis
    return tidied(stepped(basis, rest))


def spans(outer, inner):
    """Whether all vectors of one lattice are in another one."""
    if outer.width != inner.width:
        raise Mismatch()
    return all([row in outer for row in inner.basis])


class Lattice:
    """All sums of integer multiples of some vectors."""

    def __init__(self, width, rows=()):
        if not is_width(width) or not are_vectors(rows, width):
            raise InvalidVector()
        basis = ()
        # The basis is tidied anew for each row: the numbers of untidy steps may get very long.
        for row in rows:
            basis = grown(basis, row)
        self.width = width
        self.basis = basis

    @property
    def rank(self):
        """The number of vectors of the basis."""
        return len(self.basis)

    def reduced(self, vector):
        """The vector less one of the lattice, such that its number at each pivot is from 0 to the pivot less 1."""
        return reduced_by(self.basis, vector)

    def divisor(self, form):
        """The greatest integer that divides all values of a form, 0 if all are 0."""
        most = 0
        for row in self.basis:
            most = gcd(most, value_at(form, row))
        return most

    def __contains__(self, x):
        return is_vector(x, self.width) and is_zero(self.reduced(x))

    def __or__(self, other):
        if not isinstance(other, Lattice):
            return NotImplemented
        if self.width != other.width:
            raise Mismatch()
        return Lattice(self.width, self.basis + other.basis)

    def __eq__(self, other):
        return isinstance(other, Lattice) and self.width == other.width and self.basis == other.basis

    def __le__(self, other):
        if not isinstance(other, Lattice):
            return NotImplemented
        return spans(other, self)

    def __lt__(self, other):
        if not isinstance(other, Lattice):
            return NotImplemented
        return spans(other, self) and self != other

    def __ge__(self, other):
        if not isinstance(other, Lattice):
            return NotImplemented
        return spans(self, other)

    def __gt__(self, other):
        if not isinstance(other, Lattice):
            return NotImplemented
        return spans(self, other) and self != other

    def __str__(self):
        if not self.basis:
            return "zero"
        return " | ".join([written(row) for row in self.basis])
