"""The examples of points 5 to 48, and the sessions of the document that need these files alone."""

import unittest

from spreadstates.coding import cut, deltas, read, read_whole, steps, write
from spreadstates.counts import by_product, by_rests, numbers_of, product_order
from spreadstates.damage import changed, first_unseen, harm, meeting, meeting_bits, turn_counts, verdict
from spreadstates.entropy import closed_classes, cost_part, gap_part, ideal_order, ideal_part, is_even
from spreadstates.entropy import least_table, mean_bits, mean_gap
from spreadstates.errors import InvalidBound, InvalidSpread, InvalidStream, InvalidText
from spreadstates.lengths import extremes, length_counts, lengths, longest_text, means, place_of, text_at
from spreadstates.searches import best_spread, cost_of, costs_by_makers, shortest_counts, shortest_table
from spreadstates.searches import spread_at, spread_index, standing
from spreadstates.spreads import order_of_steps, spread_by_bits, spread_by_runs, spread_by_shares, spread_by_steps
from spreadstates.streams import completed, count_streams, share_within, state_shares, stream_at
from spreadstates.streams import streams_ahead, symbols_in, text_share
from spreadstates.tables import Table, table_of_rows
from spreadstates.weaving import read_after, tables_after, unwoven, write_after, write_woven


class Points(unittest.TestCase):
    def test_point_5(self):
        self.assertEqual(numbers_of([7, 3, 7]), [(3, 1), (7, 2)])

    def test_point_6(self):
        self.assertEqual(by_rests([(0, 5), (1, 2), (2, 1)], 2), [(0, 2), (1, 1), (2, 1)])

    def test_point_7(self):
        self.assertEqual(by_product([(0, 5), (1, 2), (2, 1)], 3), [(0, 5), (1, 2), (2, 1)])

    def test_point_8(self):
        self.assertEqual(product_order([(0, 5), (1, 2)], [(0, 3), (1, 1)], [(0, 2), (1, 2)]), 1)

    def test_point_9(self):
        self.assertEqual(spread_by_steps([(0, 5), (1, 2), (2, 1)]), [0, 0, 0, 0, 0, 1, 1, 2])
        expected = [0, 0, 1, 1, 0, 1, 1, 0, 0, 1, 0, 0, 1, 0, 0, 2]
        self.assertEqual(spread_by_steps([(0, 9), (1, 6), (2, 1)], [2]), expected)

    def test_point_10(self):
        counts = [(0, 5), (1, 2), (2, 1)]
        self.assertEqual(spread_by_runs(counts), [0, 0, 0, 0, 0, 1, 1, 2])
        self.assertEqual(spread_by_bits(counts), [0, 0, 0, 1, 0, 1, 0, 2])
        self.assertEqual(spread_by_shares(counts), [0, 1, 0, 0, 2, 0, 1, 0])

    def test_point_11(self):
        self.assertEqual(order_of_steps(4, 1), [0, 13, 10, 7, 4, 1, 14, 11, 8, 5, 2, 12, 9, 6, 3])


class PointsOfTables(unittest.TestCase):
    def setUp(self):
        self.small = Table([0, 0, 0, 0, 0, 1, 1, 2])

    def test_point_13(self):
        self.assertEqual(self.small.row(3), (0, 0, 0))
        expected = [(0, 1, 2), (0, 1, 4), (0, 1, 6), (0, 0, 0), (0, 0, 1), (1, 2, 0), (1, 2, 4), (2, 3, 0)]
        self.assertEqual(self.small.rows(), expected)
        self.assertEqual(table_of_rows(expected), self.small)

    def test_point_14(self):
        self.assertEqual(self.small.before(0, 3), (0, 1, 1))
        self.assertEqual(self.small.before(2, 5), (7, 3, 5))

    def test_points_16_to_20(self):
        self.assertEqual(write(self.small, [0, 2]), [0, 1, 0, 1, 0, 0, 0])
        self.assertEqual(read(self.small, [0, 1, 0, 1, 0, 0, 0, 1], 2), ([0, 2], 0, 7))
        self.assertEqual(steps(self.small, [0, 1, 0, 1, 0, 0, 0, 1], 2), [(2, 0, 1, 1), (7, 2, 3, 0)])
        self.assertEqual(cut(self.small, [0, 1, 0, 1, 0, 0, 0], 1), ([0, 1, 0, 1], [1, 1, 1, 0, 0, 0]))
        expected = ([(0, 65526, -5), (1, 196592, 3), (2, 196600, 6)], [0, 1, 2, 3, 4, 5, 6, 7])
        self.assertEqual(deltas(self.small), expected)

    def test_points_21_to_25(self):
        self.assertEqual(lengths(self.small, [0]), [3, 3, 4, 4, 4, 4, 4, 4])
        self.assertEqual(extremes(self.small, 2), (4, 9))
        self.assertEqual(longest_text(self.small, 2), [2, 2])
        self.assertEqual(length_counts(self.small, 1), [(3, 2), (4, 6), (5, 8), (6, 8)])
        expected = [[0, 0], [1, 0], [0, 1], [2, 0], [0, 2], [1, 1], [1, 2], [2, 1], [2, 2]]
        self.assertEqual([text_at(self.small, 2, number) for number in range(9)], expected)
        self.assertEqual(means(self.small), ((1, 2), (3, 1)))

    def test_points_26_to_28(self):
        self.assertEqual(symbols_in(self.small, [0, 0, 0, 1]), (1, 2))
        self.assertEqual(count_streams(self.small, 1, begin=[0]), 7)
        self.assertEqual(count_streams(self.small, 1, begin=[0], bits=4), 6)
        self.assertEqual(stream_at(self.small, 1, 6), [0, 1, 1])
        self.assertEqual(streams_ahead(self.small, [1], 1), 7)

    def test_points_29_and_30(self):
        expected = [(11, 64), (11, 64), (7, 64), (7, 64), (7, 64), (7, 64), (7, 64), (7, 64)]
        self.assertEqual(state_shares(self.small, 1), expected)
        self.assertEqual(text_share(self.small, [2]), (1, 8))
        self.assertEqual(share_within(self.small, 1, 4), (5, 8))
        self.assertEqual(completed(self.small, [1], 2), [0, 0, 0])
        self.assertEqual(completed(self.small, [1], 2, last=5), [0, 0, 1])


class PointsOfDamageAndMore(unittest.TestCase):
    def setUp(self):
        self.small = Table([0, 0, 0, 0, 0, 1, 1, 2])
        self.half = Table([0, 0, 0, 0, 1, 1, 1, 1])

    def test_points_31_to_35(self):
        self.assertEqual(changed([0, 1], ("put", 2, 0)), [0, 1, 0])
        self.assertEqual(verdict(self.small, [0, 1, 0, 1, 0, 0], 2), ("short", 1))
        self.assertEqual(harm(self.small, [0, 1, 0, 1, 0, 0, 0], ("turn", 0), 2, 0), (("end", 4), 0, None))
        self.assertEqual(meeting(self.small, [], 0, 3), (0, 1))
        self.assertEqual(meeting_bits(Table([0, 0, 1, 1]), 12), [0, 0])
        self.assertEqual(turn_counts(Table([0, 1]), 1), (0, 0, 4, 4))
        self.assertEqual(first_unseen(self.small, 1, False), ([0, 0, 0, 0], 1))

    def test_points_36_to_40(self):
        self.assertEqual(ideal_order([1, 2, 1, 1], 4), 1)
        self.assertEqual(ideal_part([1, 2, 1, 1], 10), 32)
        self.assertEqual(cost_part(self.small, [0, 1, 2], 1), 5)
        self.assertEqual(gap_part(self.small, [0, 0, 1], 0, 10), 2)
        self.assertEqual(mean_bits(self.small, [(0, 5), (1, 2), (2, 1)], 0), (49597, 37648))
        self.assertEqual(closed_classes(Table([0, 1]), [0]), [[0]])
        self.assertEqual(mean_gap(self.small, [(0, 5), (1, 2), (2, 1)], 0, 16), 0)
        self.assertEqual(least_table([0, 0, 0, 1], 0, 8), 2)

    def test_points_41_to_44(self):
        self.assertEqual(cost_of(Table([0, 1, 0, 0]), [0, 1]), 2)
        self.assertEqual(spread_at([(0, 3), (1, 1)], 1), [0, 0, 1, 0])
        self.assertEqual(spread_index([0, 0, 1, 0]), 1)
        self.assertEqual(best_spread([(0, 3), (1, 1)], [0, 1]), (2, [0, 1, 0, 0], 2))
        self.assertEqual(standing([0, 0, 0, 1], [0, 1]), (2, 2, 0))
        expected = [("bits", 3), ("runs", 3), ("shares", 3), ("steps", 3)]
        self.assertEqual(costs_by_makers([(0, 3), (1, 1)], [0, 1]), expected)
        self.assertEqual(shortest_counts([0, 0, 1], 2, "runs"), (3, [(0, 2), (1, 2)]))
        self.assertEqual(shortest_table([0, 0, 1], 3, "runs"), (4, 1))

    def test_points_45_to_48(self):
        self.assertEqual(write_woven([self.small], 2, [0, 2, 0]), [0, 0, 0, 1, 1, 1, 1, 0, 0, 0])
        expected = [[0, 0, 0, 1], [1, 1, 1, 0, 0, 0]]
        self.assertEqual(unwoven(self.small, 2, [0, 0, 0, 1, 1, 1, 1, 0, 0, 0], 3), expected)
        self.assertEqual(write_after(self.small, [(0, self.half)], [0, 1]), [0, 0, 1, 0, 0])
        first, tables = tables_after([0, 1, 0, 2], 2)
        self.assertEqual(first, Table([0, 0, 1, 2]))
        self.assertEqual(tables, [(0, Table([1, 1, 2, 2])), (1, Table([0, 0, 0, 0]))])


class Sessions(unittest.TestCase):
    def test_e02(self):
        with self.assertRaises(InvalidText) as caught:
            numbers_of([7, 1000])
        self.assertEqual(caught.exception.at, 1)

    def test_e03(self):
        found = [order_of_steps(3, 0), spread_by_steps([(0, 9), (1, 6), (2, 1)], [2])]
        spread = [0, 0, 1, 1, 0, 1, 1, 0, 0, 1, 0, 0, 1, 0, 0, 2]
        self.assertEqual(found, [[0, 1, 2, 3, 4, 5, 6, 7], spread])

    def test_e05(self):
        small = Table([0, 0, 0, 0, 0, 1, 1, 2])
        found = [small.row(3), small.rows()[5], small.before(0, 3), small.before(2, 5), small.bits(), small.counts()]
        expected = [(0, 0, 0), (1, 2, 0), (0, 1, 1), (7, 3, 5), 3, [(0, 5), (1, 2), (2, 1)]]
        self.assertEqual(found, expected)

    def test_e06(self):
        with self.assertRaises(InvalidSpread) as caught:
            Table([0, 1, 2])
        self.assertEqual(caught.exception.at, 3)

    def test_e07(self):
        small = Table([0, 0, 0, 0, 0, 1, 1, 2])
        found = [ideal_order([1, 2, 1, 1], 4), ideal_part([1, 2, 1, 1], 10), cost_part(small, [0, 1, 2], 1)]
        self.assertEqual(found + [gap_part(small, [0, 0, 1], 0, 10)], [1, 32, 5, 2])

    def test_e08(self):
        small = Table([0, 0, 0, 0, 0, 1, 1, 2])
        found = [mean_bits(small, [(0, 5), (1, 2), (2, 1)], 0), closed_classes(Table([0, 1]), [0])]
        found += [is_even(small), is_even(Table([0, 1]))]
        self.assertEqual(found, [(49597, 37648), [[0]], False, True])

    def test_e203(self):
        small = Table([0, 0, 0, 0, 0, 1, 1, 2])
        with self.assertRaises(InvalidStream) as caught:
            read_whole(small, [0, 1, 0, 1, 0, 0, 0, 1], 2)
        self.assertEqual(caught.exception.at, 7)

    def test_e204(self):
        small = Table([0, 0, 0, 0, 0, 1, 1, 2])
        with self.assertRaises(InvalidBound) as caught:
            read_whole(small, [0, 1, 0, 1, 0, 0, 0], 2, 1)
        self.assertEqual(caught.exception.argument, "last")

    def test_e209(self):
        expected = (1000000000000000000000000000002, 1000000000000000000000000000002)
        self.assertEqual(extremes(Table([7, 8, 7, 8]), 10 ** 30), expected)

    def test_e211(self):
        small = Table([0, 0, 0, 0, 0, 1, 1, 2])
        found = [text_at(small, 2, 3), place_of(small, [2, 0]), text_at(small, 2, 8)]
        self.assertEqual(found, [[2, 0], 3, [2, 2]])

    def test_e215(self):
        small = Table([0, 0, 0, 0, 0, 1, 1, 2])
        half = Table([0, 0, 0, 0, 1, 1, 1, 1])
        found = [write_after(small, [(0, half)], [0, 1]), read_after(small, [(0, half)], [0, 0, 1, 0, 0], 2)]
        self.assertEqual(found, [[0, 0, 1, 0, 0], ([0, 1], 0, 5)])

    def test_e301(self):
        small = Table([0, 0, 0, 0, 0, 1, 1, 2])
        found = [symbols_in(small, [0, 0, 0, 1]), symbols_in(small, [1, 0, 1, 0]), symbols_in(Table([7] * 4), [1, 0])]
        self.assertEqual(found, [(1, 2), None, (0, None)])

    def test_e306(self):
        small = Table([0, 0, 0, 0, 0, 1, 1, 2])
        with self.assertRaises(InvalidStream) as caught:
            completed(small, [0, 2], 1)
        self.assertEqual(caught.exception.at, 1)


if __name__ == "__main__":
    unittest.main()
