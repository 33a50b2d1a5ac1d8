"""Systems: the vectors at which some forms have some values, a point and a lattice in all."""

from sumlives.basics import added, is_zero, pivot_of, read_number, written
from sumlives.basics import are_vectors, is_sequence, is_vector, is_width
from sumlives.errors import InvalidText, InvalidVector, Mismatch
from sumlives.lattices import Lattice, reduced_by

DIGITS = 9


def unit_rows(width):
    """The vectors with one 1 and 0 else."""
    return [tuple([1 if at == place else 0 for at in range(width)]) for place in range(width)]


def sources(images, rows, target, width):
    """Some sum of the rows whose image is the target, or None, and rows that make all sums with the image 0.

    The images of the rows are told; that of a sum is the sum of theirs. Where each row has its image ahead of it,
    the basis has the pivots that are in an image first, and the rows whose image is 0 behind these.
    """
    ahead = len(target)
    both = Lattice(ahead + width, [image + row for image, row in zip(images, rows)])
    rest = both.reduced(target + (0,) * width)
    if pivot_of(rest) < ahead:
        return None, []
    free = [row[ahead:] for row in both.basis if pivot_of(row) >= ahead]
    return tuple([-number for number in rest[ahead:]]), free


def meeting(p, q):
    """Some vector of two sets that are not empty, or None, and rows that make all others of both from it."""
    # A way from the point of p within p, with any way within q added to it, has to end at the point of q.
    rows = p.basis + ((0,) * p.width,) * len(q.basis)
    way, free = sources(p.basis + q.basis, rows, added(q.point, -1, p.point), p.width)
    if way is None:
        return None, []
    return added(p.point, 1, way), free


def covers(outer, inner):
    """Whether all vectors of one set are in another one."""
    if outer.width != inner.width:
        raise Mismatch()
    if inner.point is None:
        return True
    return inner.point in outer and all([is_zero(reduced_by(outer.basis, row)) for row in inner.basis])


def read_vectors(words):
    """The vectors of a text with ` + ` between them, all as wide as the first one."""
    rows = [[]]
    for at, word in enumerate(words):
        number = read_number(word, DIGITS)
        full = len(rows[-1]) > 0 and len(rows[-1]) == len(rows[0])
        if word == "+" and full:
            rows.append([])
        elif number is None or (full and len(rows) > 1):
            raise InvalidText(at)
        else:
            rows[-1].append(number)
    if len(rows[-1]) < len(rows[0]):
        raise InvalidText(len(words))
    return [tuple(row) for row in rows]


class Factors:
    """No vector, or a point with all vectors of a lattice added to it."""

    def __init__(self, width, point=None, rows=()):
        lattice = Lattice(width, rows)
        if point is not None and not is_vector(point, width):
            raise InvalidVector()
        self.width = width
        self.point = None if point is None else lattice.reduced(point)
        self.basis = () if point is None else lattice.basis

    @classmethod
    def every(cls, width):
        """All vectors of this width."""
        if not is_width(width):
            raise InvalidVector()
        return cls(width, (0,) * width, unit_rows(width))

    @classmethod
    def solving(cls, width, forms, rights):
        """All vectors at which each form has its value in `rights`."""
        if not is_width(width) or not are_vectors(forms, width):
            raise InvalidVector()
        if not is_sequence(rights) or not is_vector(tuple(rights), len(forms)):
            raise InvalidVector()
        images = [tuple([form[at] for form in forms]) for at in range(width)]
        point, free = sources(images, unit_rows(width), tuple(rights), width)
        return cls(width, point, free)

    @classmethod
    def read(cls, text):
        """The set of a text such as `1 2 + 3 0`."""
        if not isinstance(text, str):
            raise InvalidText(0)
        rows = read_vectors(text.split(" "))
        return cls(len(rows[0]), rows[0], rows[1:])

    @property
    def size(self):
        """The number of vectors, None if they are endlessly many."""
        if self.point is None:
            return 0
        return None if self.basis else 1

    def __contains__(self, x):
        return self.point is not None and is_vector(x, self.width) and reduced_by(self.basis, x) == self.point

    def __bool__(self):
        return self.point is not None

    def __and__(self, other):
        if not isinstance(other, Factors):
            return NotImplemented
        if self.width != other.width:
            raise Mismatch()
        if self.point is None or other.point is None:
            return Factors(self.width)
        point, free = meeting(self, other)
        return Factors(self.width, point, free)

    def __eq__(self, other):
        return (isinstance(other, Factors) and self.width == other.width
                and self.point == other.point and self.basis == other.basis)

    def __le__(self, other):
        if not isinstance(other, Factors):
            return NotImplemented
        return covers(other, self)

    def __lt__(self, other):
        if not isinstance(other, Factors):
            return NotImplemented
        return covers(other, self) and self != other

    def __ge__(self, other):
        if not isinstance(other, Factors):
            return NotImplemented
        return covers(self, other)

    def __gt__(self, other):
        if not isinstance(other, Factors):
            return NotImplemented
        return covers(self, other) and self != other

    def __str__(self):
        if self.point is None:
            return "none"
        return " + ".join([written(row) for row in [self.point, *self.basis]])
