"""The examples of points 5 to 11, and the sessions of the document that need these files alone."""

import unittest

from spreadstates.counts import by_product, by_rests, numbers_of, product_order
from spreadstates.errors import InvalidText
from spreadstates.spreads import order_of_steps, spread_by_bits, spread_by_runs, spread_by_shares, spread_by_steps


class Points(unittest.TestCase):
    def test_point_5(self):
        self.assertEqual(numbers_of([7, 3, 7]), [(3, 1), (7, 2)])

    def test_point_6(self):
        self.assertEqual(by_rests([(0, 5), (1, 2), (2, 1)], 2), [(0, 2), (1, 1), (2, 1)])

    def test_point_7(self):
        self.assertEqual(by_product([(0, 5), (1, 2), (2, 1)], 3), [(0, 5), (1, 2), (2, 1)])

    def test_point_8(self):
        self.assertEqual(product_order([(0, 5), (1, 2)], [(0, 3), (1, 1)], [(0, 2), (1, 2)]), 1)

    def test_point_9(self):
        self.assertEqual(spread_by_steps([(0, 5), (1, 2), (2, 1)]), [0, 0, 0, 0, 0, 1, 1, 2])
        expected = [0, 0, 1, 1, 0, 1, 1, 0, 0, 1, 0, 0, 1, 0, 0, 2]
        self.assertEqual(spread_by_steps([(0, 9), (1, 6), (2, 1)], [2]), expected)

    def test_point_10(self):
        counts = [(0, 5), (1, 2), (2, 1)]
        self.assertEqual(spread_by_runs(counts), [0, 0, 0, 0, 0, 1, 1, 2])
        self.assertEqual(spread_by_bits(counts), [0, 0, 0, 1, 0, 1, 0, 2])
        self.assertEqual(spread_by_shares(counts), [0, 1, 0, 0, 2, 0, 1, 0])

    def test_point_11(self):
        self.assertEqual(order_of_steps(4, 1), [0, 13, 10, 7, 4, 1, 14, 11, 8, 5, 2, 12, 9, 6, 3])


class Sessions(unittest.TestCase):
    def test_e02(self):
        with self.assertRaises(InvalidText) as caught:
            numbers_of([7, 1000])
        self.assertEqual(caught.exception.at, 1)

    def test_e03(self):
        found = [order_of_steps(3, 0), spread_by_steps([(0, 9), (1, 6), (2, 1)], [2])]
        spread = [0, 0, 1, 1, 0, 1, 1, 0, 0, 1, 0, 0, 1, 0, 0, 2]
        self.assertEqual(found, [[0, 1, 2, 3, 4, 5, 6, 7], spread])


if __name__ == "__main__":
    unittest.main()
