"""[6], [7], [8]: lattices."""

import itertools
import unittest
import unittest.mock

from sumlives.errors import InvalidVector, Mismatch
from sumlives.lattices import Lattice
from tests.helpers import NO_INTEGERS, assert_order, great_rows, no_rows, no_vectors, sums


def pivots(basis):
    return [next(at for at, number in enumerate(row) if number) for row in basis]


class Made(unittest.TestCase):
    """[6]: what a lattice is made of, and its basis."""

    def assert_form(self, lattice):
        """The basis has the form that [6] tells."""
        basis = lattice.basis
        self.assertIs(type(basis), tuple)
        for row in basis:
            self.assertIs(type(row), tuple)
            self.assertEqual(len(row), lattice.width)
            self.assertTrue(any(row))
        places = pivots(basis)
        self.assertEqual(places, sorted(set(places)))
        for number, (row, at) in enumerate(zip(basis, places)):
            self.assertGreater(row[at], 0)
            for before in basis[:number]:
                self.assertIn(before[at], range(row[at]))

    def test_width_and_basis(self):
        for width in (1, 2, 3, 12):
            self.assertEqual(Lattice(width).width, width)
            self.assertEqual(Lattice(width).basis, ())

    def test_no_vectors(self):
        self.assertEqual(Lattice(2, []).basis, ())
        self.assertEqual(Lattice(2, ()).basis, ())

    def test_zero_vectors(self):
        self.assertEqual(Lattice(2, [(0, 0)]).basis, ())
        self.assertEqual(Lattice(2, [(0, 0), (0, 3), (0, 0)]).basis, ((0, 3),))

    def test_one_vector(self):
        self.assertEqual(Lattice(3, [(0, 2, -4)]).basis, ((0, 2, -4),))
        self.assertEqual(Lattice(3, [(0, -2, 4)]).basis, ((0, 2, -4),))

    def test_multiples_and_sums(self):
        self.assertEqual(Lattice(2, [(4, 6), (6, 9)]).basis, ((2, 3),))
        self.assertEqual(Lattice(2, [(1, 2), (-3, -6)]).basis, ((1, 2),))
        self.assertEqual(Lattice(2, [(1, 5), (0, 3), (1, 8), (2, 13)]).basis, ((1, 2), (0, 3)))
        self.assertEqual(Lattice(1, [(12,), (-18,), (30,)]).basis, ((6,),))

    def test_numbers_above_a_pivot(self):
        self.assertEqual(Lattice(2, [(1, 7), (0, 3)]).basis, ((1, 1), (0, 3)))
        self.assertEqual(Lattice(2, [(1, -1), (0, 3)]).basis, ((1, 2), (0, 3)))
        self.assertEqual(Lattice(2, [(1, 3), (0, 3)]).basis, ((1, 0), (0, 3)))
        self.assertEqual(Lattice(3, [(2, 5, 5), (0, 4, 9), (0, 0, 7)]).basis, ((2, 1, 3), (0, 4, 2), (0, 0, 7)))

    def test_a_later_vector_may_have_an_earlier_pivot(self):
        self.assertEqual(Lattice(3, [(0, 0, 5), (0, 2, 1), (3, 1, 7)]).basis, ((3, 1, 2), (0, 2, 1), (0, 0, 5)))

    def test_the_basis_from_all_small_vectors(self):
        found = {}
        vectors = list(itertools.product(range(-2, 3), repeat=2))
        for rows in itertools.product(vectors, repeat=2):
            lattice = Lattice(2, rows)
            self.assert_form(lattice)
            window = {vector for vector in sums(rows, -12, 12) if max(map(abs, vector)) <= 4}
            again = {vector for vector in sums(lattice.basis, -12, 12) if max(map(abs, vector)) <= 4}
            self.assertEqual(window, again or {(0, 0)}, rows)
            self.assertEqual(found.setdefault(frozenset(window), lattice.basis), lattice.basis)

    def test_numbers_of_nine_digits_and_width_twelve(self):
        rows = great_rows(12, 12)
        lattice = Lattice(12, rows)
        self.assert_form(lattice)
        self.assertEqual(lattice.rank, 12)
        self.assertTrue(all(row in lattice for row in rows))
        self.assertEqual(Lattice(12, lattice.basis).basis, lattice.basis)

    def test_the_same_determinant(self):
        # The product of the pivots is the volume, which a wrong basis of as many vectors would change.
        (a, b, c), (d, e, f), (g, h, i) = rows = great_rows(3, 3, 5)
        volume = abs(a * (e * i - f * h) - b * (d * i - f * g) + c * (d * h - e * g))
        basis = Lattice(3, rows).basis
        self.assertEqual(basis[0][0] * basis[1][1] * basis[2][2], volume)

    def test_the_same_set_from_other_vectors(self):
        rows = great_rows(4, 6)
        basis = Lattice(6, rows).basis
        self.assert_form(Lattice(6, rows))
        for order in itertools.permutations(rows):
            self.assertEqual(Lattice(6, order).basis, basis)
        a, b, c, d = rows
        other = [tuple(x + 3 * y for x, y in zip(a, b)), tuple(-x for x in b), c, tuple(x - y for x, y in zip(d, c))]
        self.assertEqual(Lattice(6, other).basis, basis)
        self.assertEqual(Lattice(6, rows + other).basis, basis)

    def test_fewer_sums_are_another_set(self):
        self.assertNotEqual(Lattice(2, [(2, 0), (0, 1)]).basis, Lattice(2, [(1, 0), (0, 1)]).basis)

    def test_wrong_widths(self):
        for width in NO_INTEGERS + [0, -1, -12]:
            with self.subTest(width=width), self.assertRaises(InvalidVector):
                Lattice(width)
            with self.subTest(width=width), self.assertRaises(InvalidVector):
                Lattice(width, [(1,)])

    def test_wrong_rows(self):
        for width in (1, 2, 3):
            for rows in no_rows(width):
                with self.subTest(width=width, rows=rows), self.assertRaises(InvalidVector):
                    Lattice(width, rows)

    def test_a_list_that_changes_after_the_call(self):
        rows = [(2, 0), (0, 2)]
        lattice = Lattice(2, rows)
        rows.append((1, 1))
        rows[0] = (1, 0)
        self.assertEqual(lattice.basis, ((2, 0), (0, 2)))
        self.assertEqual(lattice, Lattice(2, [(2, 0), (0, 2)]))

    def test_the_argument_is_not_changed(self):
        rows = [(6, 1), (4, 1), (0, 0)]
        Lattice(2, rows)
        self.assertEqual(rows, [(6, 1), (4, 1), (0, 0)])


class Asked(unittest.TestCase):
    """[7]: what a lattice tells."""

    def test_rank(self):
        self.assertEqual(Lattice(3).rank, 0)
        self.assertEqual(Lattice(3, [(0, 0, 0)]).rank, 0)
        self.assertEqual(Lattice(3, [(1, 2, 3), (2, 4, 6)]).rank, 1)
        self.assertEqual(Lattice(3, [(1, 2, 3), (2, 4, 7), (0, 1, 0), (5, 5, 5)]).rank, 3)

    def test_in(self):
        rows = [(2, 4, 1), (0, 6, 3)]
        lattice = Lattice(3, rows)
        inside = sums(rows, -8, 8)
        for vector in itertools.product(range(-4, 5), repeat=3):
            self.assertIs(vector in lattice, vector in inside, vector)

    def test_in_great(self):
        rows = great_rows(5, 7)
        lattice = Lattice(7, rows)
        some = tuple(3 * a - 5 * b + c for a, b, c in zip(*rows[:3]))
        self.assertIn(some, lattice)
        self.assertNotIn(some[:6] + (some[6] + 1,), lattice)

    def test_in_the_zero_lattice(self):
        self.assertIn((0, 0), Lattice(2))
        self.assertNotIn((0, 1), Lattice(2))

    def test_what_is_no_vector_is_not_in(self):
        every = Lattice(2, [(1, 0), (0, 1)])
        self.assertIn((5, -7), every)
        for value in no_vectors(2) + [every, {}, b"ab", (1, (0,))]:
            self.assertIs(value in every, False, value)

    def test_reduced(self):
        lattice = Lattice(2, [(4, 1), (0, 3)])
        for vector in itertools.product(range(-9, 10), repeat=2):
            short = lattice.reduced(vector)
            self.assertIs(type(short), tuple)
            self.assertIn(short[0], range(4))
            self.assertIn(short[1], range(3))
            self.assertIn((vector[0] - short[0], vector[1] - short[1]), lattice)

    def test_reduced_by_fewer_vectors(self):
        self.assertEqual(Lattice(2).reduced((-3, 8)), (-3, 8))
        self.assertEqual(Lattice(3, [(0, 5, 2)]).reduced((7, -1, 0)), (7, 4, 2))
        self.assertEqual(Lattice(3, [(0, 5, 2)]).reduced((-7, 5, 2)), (-7, 0, 0))

    def test_reduced_great(self):
        lattice = Lattice(12, great_rows(12, 12))
        vector = great_rows(1, 12, 9)[0]
        short = lattice.reduced(vector)
        for number, row in zip(short, lattice.basis):
            self.assertIn(number, range(row[pivots([row])[0]]))
        self.assertIn(tuple(a - b for a, b in zip(vector, short)), lattice)

    def test_both(self):
        p, q = Lattice(2, [(4, 0)]), Lattice(2, [(6, 0), (0, 5)])
        self.assertEqual((p | q).basis, ((2, 0), (0, 5)))
        self.assertEqual(p | q, q | p)
        self.assertEqual(p | p, p)
        self.assertEqual(p | Lattice(2), p)
        self.assertEqual((p.basis, q.basis), (((4, 0),), ((6, 0), (0, 5))))

    def test_both_in_place(self):
        older = some = Lattice(2, [(4, 0)])
        some |= Lattice(2, [(6, 0)])
        self.assertEqual(some.basis, ((2, 0),))
        self.assertEqual(older.basis, ((4, 0),))
        self.assertIsNot(some, older)

    def test_both_of_unlike_widths(self):
        with self.assertRaises(Mismatch):
            Lattice(2) | Lattice(3)
        some = Lattice(2, [(1, 1)])
        with self.assertRaises(Mismatch):
            some |= Lattice(1)
        self.assertEqual(some, Lattice(2, [(1, 1)]))

    def test_order(self):
        small, great = Lattice(2, [(4, 0), (0, 2)]), Lattice(2, [(2, 0), (0, 1)])
        assert_order(self, small, great, True, False)
        assert_order(self, great, small, False, True)
        assert_order(self, small, Lattice(2, [(4, 2), (0, -2)]), True, True)
        assert_order(self, small, Lattice(2, [(3, 0), (0, 1)]), False, False)
        assert_order(self, Lattice(2, [(1, 0)]), Lattice(2, [(0, 1)]), False, False)
        assert_order(self, Lattice(2), small, True, False)
        assert_order(self, Lattice(2), Lattice(2), True, True)
        assert_order(self, Lattice(2, [(2, 2)]), Lattice(2, [(1, 1)]), True, False)

    def test_order_great(self):
        rows = great_rows(6, 8)
        whole, part = Lattice(8, rows), Lattice(8, [tuple(2 * n for n in rows[0])] + rows[1:])
        assert_order(self, part, whole, True, False)
        assert_order(self, whole, Lattice(8, rows[::-1]), True, True)
        assert_order(self, Lattice(8, rows[:3]), whole, True, False)
        assert_order(self, Lattice(8, rows[:3]), Lattice(8, rows[3:]), False, False)

    def test_order_of_unlike_widths(self):
        p, q = Lattice(2), Lattice(3)
        for compared in (lambda: p <= q, lambda: p < q, lambda: p >= q, lambda: p > q):
            with self.assertRaises(Mismatch):
                compared()

    def test_unlike_widths_are_unequal(self):
        self.assertIs(Lattice(2) == Lattice(3), False)
        self.assertIs(Lattice(2) != Lattice(3), True)

    def test_other_values_are_unequal(self):
        some = Lattice(2, [(1, 0)])
        for value in [None, 0, True, "1 0", "", ((1, 0),), [(1, 0)], (), unittest.mock.ANY]:
            self.assertIs(some == value, False, value)
            self.assertIs(some != value, True, value)

    def test_str(self):
        self.assertEqual(str(Lattice(2, [(4, 6), (6, 9)])), "2 3")
        self.assertEqual(str(Lattice(3, [(1, 0, -2), (0, 10, -7)])), "1 0 -2 | 0 10 -7")
        self.assertEqual(str(Lattice(1, [(3,)])), "3")
        self.assertEqual(str(Lattice(2)), "zero")
        self.assertEqual(str(Lattice(2, [(0, 0)])), "zero")

    def test_it_is_not_iterable(self):
        for lattice in (Lattice(2), Lattice(2, [(1, 0), (0, 1)])):
            with self.assertRaises(TypeError):
                iter(lattice)
            with self.assertRaises(TypeError):
                list(lattice)
            with self.assertRaises(TypeError):
                first, second = lattice


class Divisors(unittest.TestCase):
    """[8]: divisors."""

    def test_divisor(self):
        some = Lattice(2, [(4, 6), (6, 9)])
        self.assertEqual(some.divisor((1, 1)), 5)
        self.assertEqual(some.divisor((1, 0)), 2)
        self.assertEqual(Lattice(2, [(4, 0), (0, 6)]).divisor((1, 1)), 2)
        self.assertEqual(Lattice(2, [(4, 0), (0, 6)]).divisor((3, 2)), 12)

    def test_divisor_zero(self):
        self.assertEqual(Lattice(2, [(2, 3)]).divisor((3, -2)), 0)
        self.assertEqual(Lattice(2, [(2, 3), (1, 0)]).divisor((0, 0)), 0)
        self.assertEqual(Lattice(2).divisor((5, 7)), 0)

    def test_divisor_is_not_negative(self):
        self.assertEqual(Lattice(1, [(6,)]).divisor((-1,)), 6)
        self.assertEqual(Lattice(2, [(4, 0), (0, 6)]).divisor((-1, -1)), 2)
        self.assertEqual(Lattice(2, [(1, -5)]).divisor((0, 3)), 15)

    def test_divisor_divides_all_values_and_is_the_greatest(self):
        rows = [(6, 4, 2), (0, 9, 3)]
        lattice = Lattice(3, rows)
        for form in itertools.product(range(-3, 4), repeat=3):
            values = [sum(a * b for a, b in zip(form, vector)) for vector in sums(rows, -2, 2)]
            most = max((d for d in range(1, 60) if all(value % d == 0 for value in values)), default=0)
            self.assertEqual(lattice.divisor(form), most if any(values) else 0, form)

    def test_divisor_of_great_numbers(self):
        rows = [tuple(999999937 * (n % 1000) for n in row) for row in great_rows(12, 12)]
        form = (999999937,) + (0,) * 10 + (-999999937,)
        self.assertEqual(Lattice(12, rows).divisor(form) % 999999937 ** 2, 0)
        self.assertEqual(Lattice(1, [(999999999,)]).divisor((-999999999,)), 999999999 ** 2)


if __name__ == "__main__":
    unittest.main()
