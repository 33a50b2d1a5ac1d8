"""The examples of the document, as they stand there."""

import unittest

from sumlives.books import Book
from sumlives.deciding import divisor, is_right, right_factors, wrong_life
from sumlives.desk import Desk
from sumlives.lattices import Lattice
from sumlives.lives import run_life
from sumlives.mending import blamed, least_mends, mended
from sumlives.papers import weights, weights_hold
from sumlives.standings import spanned, standings
from sumlives.store import Store
from sumlives.systems import Factors
from tests.helpers import raised


class Examples(unittest.TestCase):
    def test_lattices_and_systems(self):
        some = Lattice(2, [(4, 6), (6, 9)])
        self.assertEqual(
            (str(some), some.rank, some.divisor((1, 1)), str(Factors.solving(2, [(2, 3)], [7])),
             (-1, 3) in Factors.read('2 1 + 3 -2')),
            ('2 3', 1, 5, '2 1 + 3 -2', True))

    LINES = ['rest open', 'total sum', 'worth sum open 1 amount', 'event come none to open amount group']
    MORE = ['event set open to open amount', 'event go open to none', 'on come', 'add 1 new sum new', 'on set',
            'add 1 new sum new']

    def test_deciding(self):
        twice = Book.read('\n'.join(self.LINES + self.MORE + ['add 1 old sum new', 'on go', 'add -1 old sum old']))
        self.assertEqual(
            (is_right(twice), str(right_factors(twice)), divisor(twice, 'sum'), len(wrong_life(twice)[0])),
            (False, '1 1 -1 -1', 2, 2))

    def test_mending(self):
        twice = Book.read('\n'.join(self.LINES + self.MORE + ['add 1 old sum new', 'on go', 'add -1 old sum old']))
        never = Book.read('\n'.join(self.LINES + self.MORE + ['on go', 'add -1 old sum old']))
        self.assertEqual(
            (least_mends(twice), mended(twice, [2]).factors, least_mends(never), blamed(never),
             weights_hold(never, weights(never))),
            (((2,),), (1, 1, -1, -1), (), (('come',), ('set',)), True))

    def test_standings(self):
        book = Book.read('\n'.join(
            self.LINES + ['event go open to none', 'on come', 'add 1 new sum new', 'on go', 'add -1 old sum old']))
        self.assertEqual(
            standings(book), (('none', 0, False, 'none'), ('open', 0, False, 'none'), ('open', 0, True, 'none')))
        self.assertEqual(str(spanned(book, ('open', 0, True, 'none'))), '1 0 0 0 | 0 1 0 -1 | 0 0 1 1')

    def test_a_life(self):
        lines = ['rest open', 'total sum', 'note n', 'worth sum open 2 amount below 10', 'worth sum open 1 one']
        more = ['event come none to open amount group', 'event move open to open group', 'on come', 'put n new',
                'mark new']
        book = Book.read('\n'.join(
            lines + more + ['on move', 'add 3 n sum noted', 'if moved', 'add 1 one sum new', 'end']))
        life = run_life(book, [('come', 7, 'a'), ('move', None, 'b'), ('move', None, 'b')])
        self.assertEqual(
            (book.cuts, life.sums('a'), life.sums('b'), life.off('sum', 'a'), life.worth('sum', 'b'), life.noted),
            ((10,), (14, 0), (0, 1), 42, 14, 'a'))

    def test_a_store(self):
        store = Store(Book.read('\n'.join(
            self.LINES + ['event set open to open amount', 'on come', 'add 1 new sum new', 'on set', 'add 1 new sum new'])))
        told = [store.do('x', 'come', 5, 'a'), store.do('y', 'come', 2, 'a'), store.do('x', 'set', 7)]
        self.assertEqual(
            (told, store.kept('sum', 'a'), store.anew('sum', 'a'), store.recount(), store.off('sum', 'a'), len(store),
             store.undo(), store.off('sum', 'a')),
            (['open', 'open', 'open'], 14, 9, 1, 0, 4, True, 5))

    def test_a_desk(self):
        desk = Desk()
        self.assertEqual(
            desk.say('book rest open ; total sum ; worth sum open 1 one ; event come none to open amount group ; '
                     'on come ; add 2 one sum new'), '1 statements')
        self.assertEqual(
            (desk.say('right'), desk.say('factors'), desk.say('mends'), desk.say('divisor sum'),
             desk.say('do x come -4 a'), desk.say('kept sum a')),
            ('no 1', '1', '0', '1', 'open', '2'))

    def test_a_wrong_text(self):
        self.assertEqual(raised(Book.read, 'rest open\ntotal sum\nevent come none to open amount'), ('InvalidText', 2))


if __name__ == "__main__":
    unittest.main()
