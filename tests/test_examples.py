"""The examples of the document, as they stand there."""

import unittest

from sumlives.books import Book
from sumlives.lattices import Lattice
from sumlives.lives import run_life
from sumlives.systems import Factors
from tests.helpers import raised


class Examples(unittest.TestCase):
    def test_lattices_and_systems(self):
        some = Lattice(2, [(4, 6), (6, 9)])
        self.assertEqual(
            (str(some), some.rank, some.divisor((1, 1)), str(Factors.solving(2, [(2, 3)], [7])),
             (-1, 3) in Factors.read('2 1 + 3 -2')),
            ('2 3', 1, 5, '2 1 + 3 -2', True))

    def test_a_life(self):
        lines = ['rest open', 'total sum', 'note n', 'worth sum open 2 amount below 10', 'worth sum open 1 one']
        more = ['event come none to open amount group', 'event move open to open group', 'on come', 'put n new',
                'mark new']
        book = Book.read('\n'.join(
            lines + more + ['on move', 'add 3 n sum noted', 'if moved', 'add 1 one sum new', 'end']))
        life = run_life(book, [('come', 7, 'a'), ('move', None, 'b'), ('move', None, 'b')])
        self.assertEqual(
            (book.cuts, life.sums('a'), life.sums('b'), life.off('sum', 'a'), life.worth('sum', 'b'), life.noted),
            ((10,), (14, 0), (0, 1), 42, 14, 'a'))

    def test_a_wrong_text(self):
        self.assertEqual(raised(Book.read, 'rest open\ntotal sum\nevent come none to open amount'), ('InvalidText', 2))


if __name__ == "__main__":
    unittest.main()
