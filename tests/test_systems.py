"""[9], [10]: systems."""

import itertools
import unittest
import unittest.mock

from sumlives.errors import InvalidText, InvalidVector, Mismatch
from sumlives.lattices import Lattice
from sumlives.systems import Factors
from tests.helpers import NO_INTEGERS, NO_SEQUENCES, assert_order, great_rows, no_rows, no_vectors, sums


def value_at(form, vector):
    return sum(a * b for a, b in zip(form, vector))


def shown(factors):
    return factors.width, factors.point, factors.basis


class Made(unittest.TestCase):
    """[9]: what a set is made of."""

    def test_empty(self):
        self.assertEqual(shown(Factors(2)), (2, None, ()))
        self.assertEqual(shown(Factors(2, None)), (2, None, ()))
        self.assertEqual(shown(Factors(2, None, [(1, 0)])), (2, None, ()))

    def test_a_point(self):
        self.assertEqual(shown(Factors(3, (1, -2, 0))), (3, (1, -2, 0), ()))
        self.assertEqual(shown(Factors(1, (0,), [(0,)])), (1, (0,), ()))

    def test_a_point_with_rows(self):
        self.assertEqual(shown(Factors(2, (7, 1), [(4, 6), (6, 9)])), (2, (1, -8), ((2, 3),)))
        self.assertEqual(shown(Factors(2, (-1, -1), [(0, 5), (3, 0)])), (2, (2, 4), ((3, 0), (0, 5))))

    def test_the_point_is_reduced_and_the_basis_that_of_the_lattice(self):
        rows, point = great_rows(5, 7), great_rows(1, 7, 3)[0]
        factors, lattice = Factors(7, point, rows), Lattice(7, rows)
        self.assertEqual(factors.basis, lattice.basis)
        self.assertEqual(factors.point, lattice.reduced(point))

    def test_wrong_widths(self):
        for width in NO_INTEGERS + [0, -1]:
            for call in (Factors, Factors.every, lambda width: Factors(width, (1,)),
                         lambda width: Factors.solving(width, [], []),
                         lambda width: Factors.solving(width, [(1,)], [1])):
                with self.subTest(width=width), self.assertRaises(InvalidVector):
                    call(width)

    def test_wrong_points(self):
        for width in (1, 2, 3):
            for point in no_vectors(width):
                if point is not None:
                    with self.subTest(width=width, point=point), self.assertRaises(InvalidVector):
                        Factors(width, point)
                    with self.subTest(width=width, point=point), self.assertRaises(InvalidVector):
                        Factors(width, point, [(1,) * width])

    def test_wrong_rows(self):
        for width in (1, 2, 3):
            for rows in no_rows(width):
                for point in (None, (0,) * width):
                    with self.subTest(width=width, point=point, rows=rows), self.assertRaises(InvalidVector):
                        Factors(width, point, rows)

    def test_several_wrong_arguments(self):
        for arguments in [(0, (1,), None), (0, "a", []), (2, (1,), None), (2, [1, 1], [(1,)]), ("2", None, 5)]:
            with self.subTest(arguments), self.assertRaises(InvalidVector):
                Factors(*arguments)

    def test_a_list_that_changes_after_the_call(self):
        rows = [(2, 0), (0, 2)]
        factors = Factors(2, (1, 1), rows)
        rows[0] = (1, 0)
        rows.clear()
        self.assertEqual(shown(factors), (2, (1, 1), ((2, 0), (0, 2))))

    def test_every(self):
        self.assertEqual(shown(Factors.every(1)), (1, (0,), ((1,),)))
        self.assertEqual(shown(Factors.every(3)), (3, (0, 0, 0), ((1, 0, 0), (0, 1, 0), (0, 0, 1))))


class Solved(unittest.TestCase):
    """[9]: solving."""

    def test_one_solution(self):
        self.assertEqual(str(Factors.solving(2, [(1, 1), (1, -1)], [5, 1])), "3 2")
        self.assertEqual(str(Factors.solving(1, [(-7,)], [21])), "-3")
        self.assertEqual(str(Factors.solving(2, [(2, 1), (1, 1)], (0, 0))), "0 0")

    def test_many_solutions(self):
        self.assertEqual(str(Factors.solving(2, [(2, 3)], [7])), "2 1 + 3 -2")
        self.assertEqual(str(Factors.solving(3, [(0, 1, 0)], [4])), "0 4 0 + 1 0 0 + 0 0 1")
        self.assertEqual(str(Factors.solving(2, [(4, 6), (2, 3), (-6, -9)], [14, 7, -21])), "2 1 + 3 -2")

    def test_no_solutions(self):
        self.assertEqual(shown(Factors.solving(2, [(1, 1), (1, 1)], [1, 2])), (2, None, ()))
        self.assertEqual(shown(Factors.solving(3, [(0, 0, 0)], [1])), (3, None, ()))

    def test_solutions_that_are_no_integers(self):
        self.assertEqual(shown(Factors.solving(2, [(2, 4)], [3])), (2, None, ()))
        self.assertEqual(shown(Factors.solving(2, [(1, 1), (1, -1)], [1, 0])), (2, None, ()))
        self.assertEqual(shown(Factors.solving(1, [(2,)], [1])), (1, None, ()))
        # Each of these can be solved, and both by rational numbers, but not by integers.
        self.assertTrue(Factors.solving(2, [(1, 1)], [0]))
        self.assertTrue(Factors.solving(2, [(1, -1)], [1]))
        self.assertFalse(Factors.solving(2, [(1, 1), (1, -1)], [0, 1]))

    def test_no_forms(self):
        self.assertEqual(Factors.solving(2, [], []), Factors.every(2))
        self.assertEqual(Factors.solving(2, (), ()), Factors.every(2))
        self.assertEqual(Factors.solving(2, [(0, 0)], [0]), Factors.every(2))

    def test_wrong_forms(self):
        for forms in no_rows(2):
            for rights in ([], [1], [1, 1]):
                with self.subTest(forms=forms, rights=rights), self.assertRaises(InvalidVector):
                    Factors.solving(2, forms, rights)

    def test_wrong_rights(self):
        wrong = NO_SEQUENCES + [[], (), [1], [1, 2, 3], [[1, 2]]] + [[1, value] for value in NO_INTEGERS]
        for rights in wrong + [(value, 1) for value in NO_INTEGERS]:
            with self.subTest(rights=rights), self.assertRaises(InvalidVector):
                Factors.solving(2, [(1, 0), (0, 1)], rights)
        for rights in NO_SEQUENCES + [[1], (0,), [None]]:
            with self.subTest(rights=rights), self.assertRaises(InvalidVector):
                Factors.solving(2, [], rights)

    def test_the_arguments_are_not_changed(self):
        forms, rights = [(2, 3), (0, 1)], [7, 1]
        solved = Factors.solving(2, forms, rights)
        self.assertEqual((forms, rights), ([(2, 3), (0, 1)], [7, 1]))
        forms.clear()
        rights.clear()
        self.assertEqual(solved, Factors(2, (2, 1)))

    def test_all_small_systems_of_two_forms(self):
        vectors = list(itertools.product(range(-6, 7), repeat=2))
        forms = [(0, 0), (1, 0), (0, 2), (2, 3), (-2, 3), (2, 4), (3, -3), (1, 2)]
        for p, q in itertools.product(forms, repeat=2):
            for rights in itertools.product(range(-3, 4), repeat=2):
                solved = Factors.solving(2, [p, q], rights)
                for vector in vectors:
                    right = (value_at(p, vector), value_at(q, vector)) == rights
                    self.assertIs(vector in solved, right, (p, q, rights, vector))

    def test_systems_of_one_form(self):
        vectors = list(itertools.product(range(-4, 5), repeat=3))
        for form in [(2, 4, 6), (6, 10, 15), (0, 3, -3), (0, 0, 0), (-4, 0, 6), (1, 1, 1)]:
            for right in range(-4, 5):
                solved = Factors.solving(3, [form], [right])
                for vector in vectors:
                    self.assertIs(vector in solved, value_at(form, vector) == right, (form, right, vector))

    def test_great_systems(self):
        forms, vector = great_rows(12, 12), great_rows(1, 12, 8)[0]
        rights = [value_at(form, vector) for form in forms]
        self.assertEqual(Factors.solving(12, forms, rights), Factors(12, vector))
        self.assertFalse(Factors.solving(12, forms, rights[:11] + [rights[11] + 1]))
        some = Factors.solving(12, forms[:7], rights[:7])
        self.assertIn(vector, some)
        self.assertEqual(len(some.basis), 5)
        for form, right in zip(forms[:7], rights):
            self.assertEqual(value_at(form, some.point), right)
            self.assertEqual([value_at(form, row) for row in some.basis], [0] * 5)
        # No solution is left out: no sum of the basis can be divided by what its factors cannot.
        for divided in (2, 3):
            for times in itertools.product(range(divided), repeat=5):
                total = [sum(a * row[at] for a, row in zip(times, some.basis)) for at in range(12)]
                self.assertEqual(any(times), any(number % divided for number in total))


class Asked(unittest.TestCase):
    """[10]: what a set tells."""

    def test_in(self):
        rows, point = [(2, 4, 1), (0, 6, 3)], (1, -1, 2)
        factors = Factors(3, point, rows)
        inside = {tuple(a + b for a, b in zip(point, vector)) for vector in sums(rows, -8, 8)}
        for vector in itertools.product(range(-4, 5), repeat=3):
            self.assertIs(vector in factors, vector in inside, vector)

    def test_in_a_single_point_and_the_empty_set(self):
        self.assertIn((1, -2), Factors(2, (1, -2)))
        self.assertNotIn((1, 2), Factors(2, (1, -2)))
        self.assertNotIn((0, 0), Factors(2))
        self.assertIs(None in Factors(2), False)

    def test_what_is_no_vector_is_not_in(self):
        for factors in (Factors.every(2), Factors(2, (1, 1)), Factors(2)):
            for value in no_vectors(2) + [factors, Lattice(2), {}, b"ab", (1, (0,))]:
                self.assertIs(value in factors, False, value)

    def test_bool(self):
        self.assertIs(bool(Factors(2)), False)
        self.assertIs(bool(Factors(2, None, [(1, 1)])), False)
        self.assertIs(bool(Factors(2, (0, 0))), True)
        self.assertIs(bool(Factors(2, (1, 0), [(1, 1)])), True)
        self.assertIs(bool(Factors.every(1)), True)

    def test_size(self):
        self.assertEqual(Factors(2).size, 0)
        self.assertEqual(Factors(2, None, [(1, 1)]).size, 0)
        self.assertEqual(Factors(2, (3, 4)).size, 1)
        self.assertEqual(Factors(2, (3, 4), [(0, 0)]).size, 1)
        self.assertIsNone(Factors(2, (3, 4), [(0, 1)]).size)
        self.assertIsNone(Factors.every(2).size)

    def test_common(self):
        p = Factors(1, (1,), [(4,)])
        self.assertEqual(p & Factors(1, (3,), [(6,)]), Factors(1, (9,), [(12,)]))
        self.assertEqual(p & Factors(1, (0,), [(6,)]), Factors(1))
        self.assertEqual(p & Factors(1, (5,)), Factors(1, (5,)))
        self.assertEqual(p & Factors(1, (6,)), Factors(1))
        self.assertEqual(Factors(1, (5,)) & Factors(1, (5,)), Factors(1, (5,)))
        self.assertEqual(Factors(1, (5,)) & Factors(1, (4,)), Factors(1))
        self.assertEqual(p & Factors(1), Factors(1))
        self.assertEqual(Factors(1) & p, Factors(1))
        self.assertEqual(Factors(1) & Factors(1), Factors(1))
        self.assertEqual(p & Factors.every(1), p)
        self.assertEqual(p & p, p)
        self.assertEqual(shown(p), (1, (1,), ((4,),)))

    def test_common_of_all_small_sets(self):
        vectors = list(itertools.product(range(-6, 7), repeat=2))
        rows = [[], [(2, 0)], [(1, 2)], [(0, 3)], [(2, 2), (0, 3)], [(3, 1), (0, 2)], [(1, -1)], [(4, 2), (2, 4)]]
        made = [Factors(2, point, some) for some in rows for point in ((0, 0), (1, 0), (-1, 2))]
        for p, q in itertools.product(made, repeat=2):
            both = p & q
            self.assertEqual(both, q & p)
            self.assertLessEqual(both, p)
            self.assertLessEqual(both, q)
            for vector in vectors:
                self.assertIs(vector in both, vector in p and vector in q, (str(p), str(q), vector))

    def test_common_great(self):
        forms, vector = great_rows(8, 12), great_rows(1, 12, 8)[0]
        rights = [value_at(form, vector) for form in forms]
        p, q = Factors.solving(12, forms[:4], rights[:4]), Factors.solving(12, forms[4:], rights[4:])
        self.assertEqual(p & q, Factors.solving(12, forms, rights))

    def test_common_in_place(self):
        older = some = Factors(1, (1,), [(4,)])
        some &= Factors(1, (3,), [(6,)])
        self.assertEqual(shown(some), (1, (9,), ((12,),)))
        self.assertEqual(shown(older), (1, (1,), ((4,),)))

    def test_common_of_unlike_widths(self):
        for p, q in itertools.permutations([Factors(2), Factors(3), Factors.every(4), Factors(5, (1,) * 5)], 2):
            with self.assertRaises(Mismatch):
                p & q
            some = p
            with self.assertRaises(Mismatch):
                some &= q
            self.assertIs(some, p)

    def test_order(self):
        some = Factors(2, (1, 0), [(2, 0), (0, 3)])
        assert_order(self, some, Factors(2, (-3, 6), [(2, 3), (0, 3)]), True, True)
        assert_order(self, some, Factors(2, (0, 0), [(2, 0), (0, 3)]), False, False)
        assert_order(self, some, Factors(2, (3, 0), [(4, 0), (0, 3)]), False, True)
        assert_order(self, some, Factors(2, (3, 9)), False, True)
        assert_order(self, some, Factors(2, (2, 9)), False, False)
        assert_order(self, some, Factors(2, (2, 9), [(4, 0)]), False, False)
        assert_order(self, some, Factors(2, (1, 0), [(1, 0)]), False, False)
        assert_order(self, some, Factors.every(2), True, False)
        assert_order(self, Factors(2, (1, 1)), Factors(2, (1, 1)), True, True)
        assert_order(self, Factors(2, (1, 1)), Factors(2, (1, 2)), False, False)
        assert_order(self, Factors(2, (1, 0), [(4, 0)]), Factors(2, (1, 0), [(2, 0)]), True, False)
        assert_order(self, Factors(2, (0, 0)), Factors(2, (0, 0), [(0, 1)]), True, False)
        assert_order(self, Factors(2, (1, 1), [(2, 2)]), Factors(2, (1, 1), [(0, 5)]), False, False)

    def test_order_of_empty_sets(self):
        assert_order(self, Factors(2), Factors(2), True, True)
        assert_order(self, Factors(2), Factors(2, None, [(1, 1)]), True, True)
        assert_order(self, Factors(2), Factors(2, (1, 1)), True, False)
        assert_order(self, Factors.every(2), Factors(2), False, True)

    def test_order_of_unlike_widths(self):
        for p, q in [(Factors(2), Factors(3)), (Factors(2, (0, 0)), Factors(1)), (Factors.every(1), Factors.every(2))]:
            for compared in (lambda: p <= q, lambda: p < q, lambda: p >= q, lambda: p > q):
                with self.assertRaises(Mismatch):
                    compared()

    def test_unlike_widths_are_unequal(self):
        for p, q in [(Factors(2), Factors(3)), (Factors(2, (0, 0)), Factors(1)), (Factors.every(1), Factors.every(2))]:
            self.assertIs(p == q, False)
            self.assertIs(p != q, True)

    def test_other_values_are_unequal(self):
        for factors in (Factors(1), Factors(1, (0,)), Factors.every(1)):
            for value in [None, 0, False, True, "none", "0", (0,), ((0,),), [], Lattice(1), Lattice(1, [(1,)]),
                          unittest.mock.ANY]:
                self.assertIs(factors == value, False, value)
                self.assertIs(factors != value, True, value)

    def test_it_is_not_iterable(self):
        for factors in (Factors(2), Factors(2, (1, 1)), Factors.every(2)):
            with self.assertRaises(TypeError):
                iter(factors)
            with self.assertRaises(TypeError):
                tuple(factors)


class Texts(unittest.TestCase):
    """[10]: texts."""

    def test_str(self):
        self.assertEqual(str(Factors(2)), "none")
        self.assertEqual(str(Factors(3, (0, -1, 20))), "0 -1 20")
        self.assertEqual(str(Factors(2, (1, 5), [(0, 3)])), "1 2 + 0 3")
        self.assertEqual(str(Factors(1, (-1,), [(7,)])), "6 + 7")
        self.assertEqual(str(Factors.every(2)), "0 0 + 1 0 + 0 1")

    def test_read(self):
        self.assertEqual(shown(Factors.read("5")), (1, (5,), ()))
        self.assertEqual(shown(Factors.read("1 2 + 3 0")), (2, (1, 2), ((3, 0),)))
        self.assertEqual(shown(Factors.read("-1 0 -999999999")), (3, (-1, 0, -999999999), ()))
        self.assertEqual(shown(Factors.read("0 + 0")), (1, (0,), ()))
        self.assertEqual(shown(Factors.read(" ".join("1" * 12))), (12, (1,) * 12, ()))

    def test_read_any_point_and_any_vectors(self):
        self.assertEqual(shown(Factors.read("7 1 + 4 6 + 6 9")), (2, (1, -8), ((2, 3),)))
        self.assertEqual(shown(Factors.read("5 + 4 + 0 + -6")), (1, (1,), ((2,),)))
        self.assertEqual(shown(Factors.read("1 1 + 0 1 + 1 0 + 3 3")), (2, (0, 0), ((1, 0), (0, 1))))

    def test_back_and_forth(self):
        made = [Factors(2, (3, 1), [(2, 1)]), Factors(3, (-1, -2, -3)), Factors.every(4),
                Factors.solving(2, [(2, 3)], [7]), Factors(3, great_rows(1, 3)[0], great_rows(1, 3, 2)),
                Factors(2, (5, 5), [(0, 999999999), (7, 0)])]
        for factors in made:
            self.assertEqual(Factors.read(str(factors)), factors)
        for text in ["2 1 + 3 -2", "0", "0 0 + 1 0 + 0 1", "-4 5 -6", "1 2 + 2 3 + 0 4"]:
            self.assertEqual(str(Factors.read(text)), text)

    def assert_wrong(self, text, at):
        with self.subTest(text=text), self.assertRaises(InvalidText) as caught:
            Factors.read(text)
        self.assertEqual(caught.exception.at, at, text)
        self.assertIs(type(caught.exception.at), int)

    def test_read_no_string(self):
        for value in [None, True, False, 0, 12, (), (1, 2), [], ["1", "2"], ("1",)]:
            self.assert_wrong(value, 0)

    def test_read_none_and_an_empty_text(self):
        for text in ["none", "", "none + 1", "none none"]:
            self.assert_wrong(text, 0)
        self.assert_wrong("1 none", 1)
        self.assert_wrong("1 + none", 2)

    def test_read_blanks(self):
        self.assert_wrong(" ", 0)
        self.assert_wrong(" 1 2", 0)
        self.assert_wrong("1 2 ", 2)
        self.assert_wrong("1  2", 1)
        self.assert_wrong("1 2 +  3 4", 3)
        self.assert_wrong("1 2  + 3 4", 2)
        self.assert_wrong("1 2 + 3 ", 4)
        self.assert_wrong("1 2 + ", 3)
        self.assert_wrong("1 2 + 3 4 ", 5)
        self.assert_wrong("1\n2", 0)
        self.assert_wrong("1 2\n", 1)
        self.assert_wrong("1 2\t3", 1)

    def test_read_wrong_numbers(self):
        for word in ["01", "00", "-", "-0", "-01", "--1", "1-", "+1", "++", "1.0", "1_0", "1,", "a", "0x1", "1e3", "*",
                     "1234567890", "-1234567890", "0000000001", "\u0661", "\u00b2", "(1)", "1+2", "one"]:
            self.assert_wrong(word, 0)
            self.assert_wrong("3 " + word, 1)
            self.assert_wrong("3 4 + " + word + " 1", 3)
            self.assert_wrong("3 4 + 1 " + word + " + 1 1", 4)

    def test_read_nine_digits(self):
        self.assertEqual(Factors.read("123456789 -987654321").point, (123456789, -987654321))

    def test_read_plus(self):
        self.assert_wrong("+", 0)
        self.assert_wrong("+ 1", 0)
        self.assert_wrong("1 +", 2)
        self.assert_wrong("1 2 +", 3)
        self.assert_wrong("1 2 + 3 4 +", 6)
        self.assert_wrong("1 + +", 2)
        self.assert_wrong("1 + + 2", 2)
        self.assert_wrong("1 2 + + 3 4", 3)

    def test_read_unlike_widths(self):
        self.assert_wrong("1 2 + 3", 4)
        self.assert_wrong("1 2 + 3 + 4 5", 4)
        self.assert_wrong("1 2 + 3 4 5", 5)
        self.assert_wrong("1 + 2 3", 3)
        self.assert_wrong("1 2 3 + 4 5 6 + 7 8", 10)
        self.assert_wrong("1 2 3 + 4 5 + 7 8 9", 6)
        self.assert_wrong("1 2 + 3 4 + 5 6 7 +", 8)

    def test_read_tells_the_first_fault(self):
        self.assert_wrong("1 x + + 02", 1)
        self.assert_wrong("1 + 2 x +", 3)


if __name__ == "__main__":
    unittest.main()
