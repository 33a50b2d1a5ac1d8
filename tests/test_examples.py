"""The examples of the document, as they stand there."""

import unittest

from sumlives.lattices import Lattice
from sumlives.systems import Factors


class Examples(unittest.TestCase):
    def test_lattices_and_systems(self):
        some = Lattice(2, [(4, 6), (6, 9)])
        self.assertEqual(
            (str(some), some.rank, some.divisor((1, 1)), str(Factors.solving(2, [(2, 3)], [7])),
             (-1, 3) in Factors.read('2 1 + 3 -2')),
            ('2 3', 1, 5, '2 1 + 3 -2', True))


if __name__ == "__main__":
    unittest.main()
