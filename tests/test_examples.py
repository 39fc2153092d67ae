"""The examples of all points, and the sessions of the document."""

import unittest

from spreadstates.adaptive import adaptive_chance, adaptive_counts, best_block, read_adaptive, write_adaptive
from spreadstates.alike import alike_classes, are_alike, first_apart, renamed, renaming, written_apart
from spreadstates.coding import cut, deltas, read, read_whole, steps, write
from spreadstates.counts import by_product, by_rests, numbers_of, product_order
from spreadstates.damage import changed, first_unseen, harm, meeting, meeting_bits, turn_counts, verdict
from spreadstates.desks import Desk, replayed
from spreadstates.entropy import closed_classes, cost_part, gap_part, ideal_order, ideal_part, is_even
from spreadstates.entropy import least_table, mean_bits, mean_gap
from spreadstates.errors import InvalidBound, InvalidCall, InvalidHeader, InvalidSpread, InvalidStream, InvalidText
from spreadstates.headers import header_of, pack, read_escaped, read_header, shortest_pack, write_escaped
from spreadstates.lengths import extremes, length_counts, lengths, longest_text, means, place_of, text_at
from spreadstates.searches import best_spread, cost_of, costs_by_makers, shortest_counts, shortest_table
from spreadstates.searches import spread_at, spread_index, standing
from spreadstates.spreads import order_of_steps, spread_by_bits, spread_by_runs, spread_by_shares, spread_by_steps
from spreadstates.streams import completed, count_streams, share_within, state_shares, stream_at
from spreadstates.streams import streams_ahead, symbols_in, text_share
from spreadstates.tables import Table, table_of_rows
from spreadstates.weaving import read_after, tables_after, unwoven, write_after, write_woven


class Points(unittest.TestCase):
    def test_point_5(self):
        self.assertEqual(numbers_of([7, 3, 7]), [(3, 1), (7, 2)])

    def test_point_6(self):
        self.assertEqual(by_rests([(0, 5), (1, 2), (2, 1)], 2), [(0, 2), (1, 1), (2, 1)])

    def test_point_7(self):
        self.assertEqual(by_product([(0, 5), (1, 2), (2, 1)], 3), [(0, 5), (1, 2), (2, 1)])

    def test_point_8(self):
        self.assertEqual(product_order([(0, 5), (1, 2)], [(0, 3), (1, 1)], [(0, 2), (1, 2)]), 1)

    def test_point_9(self):
        self.assertEqual(spread_by_steps([(0, 5), (1, 2), (2, 1)]), [0, 0, 0, 0, 0, 1, 1, 2])
        expected = [0, 0, 1, 1, 0, 1, 1, 0, 0, 1, 0, 0, 1, 0, 0, 2]
        self.assertEqual(spread_by_steps([(0, 9), (1, 6), (2, 1)], [2]), expected)

    def test_point_10(self):
        counts = [(0, 5), (1, 2), (2, 1)]
        self.assertEqual(spread_by_runs(counts), [0, 0, 0, 0, 0, 1, 1, 2])
        self.assertEqual(spread_by_bits(counts), [0, 0, 0, 1, 0, 1, 0, 2])
        self.assertEqual(spread_by_shares(counts), [0, 1, 0, 0, 2, 0, 1, 0])

    def test_point_11(self):
        self.assertEqual(order_of_steps(4, 1), [0, 13, 10, 7, 4, 1, 14, 11, 8, 5, 2, 12, 9, 6, 3])


class PointsOfTables(unittest.TestCase):
    def setUp(self):
        self.small = Table([0, 0, 0, 0, 0, 1, 1, 2])

    def test_point_13(self):
        self.assertEqual(self.small.row(3), (0, 0, 0))
        expected = [(0, 1, 2), (0, 1, 4), (0, 1, 6), (0, 0, 0), (0, 0, 1), (1, 2, 0), (1, 2, 4), (2, 3, 0)]
        self.assertEqual(self.small.rows(), expected)
        self.assertEqual(table_of_rows(expected), self.small)

    def test_point_14(self):
        self.assertEqual(self.small.before(0, 3), (0, 1, 1))
        self.assertEqual(self.small.before(2, 5), (7, 3, 5))

    def test_points_16_to_20(self):
        self.assertEqual(write(self.small, [0, 2]), [0, 1, 0, 1, 0, 0, 0])
        self.assertEqual(read(self.small, [0, 1, 0, 1, 0, 0, 0, 1], 2), ([0, 2], 0, 7))
        self.assertEqual(steps(self.small, [0, 1, 0, 1, 0, 0, 0, 1], 2), [(2, 0, 1, 1), (7, 2, 3, 0)])
        self.assertEqual(cut(self.small, [0, 1, 0, 1, 0, 0, 0], 1), ([0, 1, 0, 1], [1, 1, 1, 0, 0, 0]))
        expected = ([(0, 65526, -5), (1, 196592, 3), (2, 196600, 6)], [0, 1, 2, 3, 4, 5, 6, 7])
        self.assertEqual(deltas(self.small), expected)

    def test_points_21_to_25(self):
        self.assertEqual(lengths(self.small, [0]), [3, 3, 4, 4, 4, 4, 4, 4])
        self.assertEqual(extremes(self.small, 2), (4, 9))
        self.assertEqual(longest_text(self.small, 2), [2, 2])
        self.assertEqual(length_counts(self.small, 1), [(3, 2), (4, 6), (5, 8), (6, 8)])
        expected = [[0, 0], [1, 0], [0, 1], [2, 0], [0, 2], [1, 1], [1, 2], [2, 1], [2, 2]]
        self.assertEqual([text_at(self.small, 2, number) for number in range(9)], expected)
        self.assertEqual(means(self.small), ((1, 2), (3, 1)))

    def test_points_26_to_28(self):
        self.assertEqual(symbols_in(self.small, [0, 0, 0, 1]), (1, 2))
        self.assertEqual(count_streams(self.small, 1, begin=[0]), 7)
        self.assertEqual(count_streams(self.small, 1, begin=[0], bits=4), 6)
        self.assertEqual(stream_at(self.small, 1, 6), [0, 1, 1])
        self.assertEqual(streams_ahead(self.small, [1], 1), 7)

    def test_points_29_and_30(self):
        expected = [(11, 64), (11, 64), (7, 64), (7, 64), (7, 64), (7, 64), (7, 64), (7, 64)]
        self.assertEqual(state_shares(self.small, 1), expected)
        self.assertEqual(text_share(self.small, [2]), (1, 8))
        self.assertEqual(share_within(self.small, 1, 4), (5, 8))
        self.assertEqual(completed(self.small, [1], 2), [0, 0, 0])
        self.assertEqual(completed(self.small, [1], 2, last=5), [0, 0, 1])


class PointsOfDamageAndMore(unittest.TestCase):
    def setUp(self):
        self.small = Table([0, 0, 0, 0, 0, 1, 1, 2])
        self.half = Table([0, 0, 0, 0, 1, 1, 1, 1])

    def test_points_31_to_35(self):
        self.assertEqual(changed([0, 1], ("put", 2, 0)), [0, 1, 0])
        self.assertEqual(verdict(self.small, [0, 1, 0, 1, 0, 0], 2), ("short", 1))
        self.assertEqual(harm(self.small, [0, 1, 0, 1, 0, 0, 0], ("turn", 0), 2, 0), (("end", 4), 0, None))
        self.assertEqual(meeting(self.small, [], 0, 3), (0, 1))
        self.assertEqual(meeting_bits(Table([0, 0, 1, 1]), 12), [0, 0])
        self.assertEqual(turn_counts(Table([0, 1]), 1), (0, 0, 4, 4))
        self.assertEqual(first_unseen(self.small, 1, False), ([0, 0, 0, 0], 1))

    def test_points_36_to_40(self):
        self.assertEqual(ideal_order([1, 2, 1, 1], 4), 1)
        self.assertEqual(ideal_part([1, 2, 1, 1], 10), 32)
        self.assertEqual(cost_part(self.small, [0, 1, 2], 1), 5)
        self.assertEqual(gap_part(self.small, [0, 0, 1], 0, 10), 2)
        self.assertEqual(mean_bits(self.small, [(0, 5), (1, 2), (2, 1)], 0), (49597, 37648))
        self.assertEqual(closed_classes(Table([0, 1]), [0]), [[0]])
        self.assertEqual(mean_gap(self.small, [(0, 5), (1, 2), (2, 1)], 0, 16), 0)
        self.assertEqual(least_table([0, 0, 0, 1], 0, 8), 2)

    def test_points_41_to_44(self):
        self.assertEqual(cost_of(Table([0, 1, 0, 0]), [0, 1]), 2)
        self.assertEqual(spread_at([(0, 3), (1, 1)], 1), [0, 0, 1, 0])
        self.assertEqual(spread_index([0, 0, 1, 0]), 1)
        self.assertEqual(best_spread([(0, 3), (1, 1)], [0, 1]), (2, [0, 1, 0, 0], 2))
        self.assertEqual(standing([0, 0, 0, 1], [0, 1]), (2, 2, 0))
        expected = [("bits", 3), ("runs", 3), ("shares", 3), ("steps", 3)]
        self.assertEqual(costs_by_makers([(0, 3), (1, 1)], [0, 1]), expected)
        self.assertEqual(shortest_counts([0, 0, 1], 2, "runs"), (3, [(0, 2), (1, 2)]))
        self.assertEqual(shortest_table([0, 0, 1], 3, "runs"), (4, 1))

    def test_points_45_to_48(self):
        self.assertEqual(write_woven([self.small], 2, [0, 2, 0]), [0, 0, 0, 1, 1, 1, 1, 0, 0, 0])
        expected = [[0, 0, 0, 1], [1, 1, 1, 0, 0, 0]]
        self.assertEqual(unwoven(self.small, 2, [0, 0, 0, 1, 1, 1, 1, 0, 0, 0], 3), expected)
        self.assertEqual(write_after(self.small, [(0, self.half)], [0, 1]), [0, 0, 1, 0, 0])
        first, tables = tables_after([0, 1, 0, 2], 2)
        self.assertEqual(first, Table([0, 0, 1, 2]))
        self.assertEqual(tables, [(0, Table([1, 1, 2, 2])), (1, Table([0, 0, 0, 0]))])


class PointsOfHeadersAndMore(unittest.TestCase):
    def setUp(self):
        self.small = Table([0, 0, 0, 0, 0, 1, 1, 2])
        self.calls = [("table", "a", [0, 0, 0, 0, 0, 1, 1, 2]), ("block", 0, "a", [0, 2]), ("cut", 0, 1)]

    def test_points_49_to_52(self):
        self.assertEqual(header_of([(0, 5), (1, 2), (2, 1)]), [0, 0, 1, 1, 1, 0, 1, 1, 0, 1])
        self.assertEqual(header_of([(3, 2)]), [0, 0, 0, 1, 0, 1, 0, 1])
        self.assertEqual(read_header([1, 0, 0, 0, 1, 0, 1, 0, 1, 1], 1), ([(3, 2)], 9))
        self.assertEqual(pack([0, 0, 1], 1), [0, 0, 0, 1, 1, 0, 1, 0, 0, 1, 0])
        self.assertEqual(write_escaped(Table([0, 0, 0, 9]), [0, 5], 9, 3), [0, 0, 1, 1, 0, 1, 0, 0])
        self.assertEqual(read_escaped(Table([0, 0, 0, 9]), [0, 0, 1, 1, 0, 1, 0, 0], 2, 9, 3), ([0, 5], 0))

    def test_points_53_to_55(self):
        self.assertEqual(adaptive_counts([0, 1], 2, 1, 2), [[(0, 2), (1, 2)], [(0, 3), (1, 1)]])
        self.assertEqual(write_adaptive([0, 1], 2, 1, 2), [0, 1, 1, 0, 0])
        self.assertEqual(read_adaptive([0, 1, 1, 0, 0], 2, 2, 1, 2), ([0, 1], [0]))
        self.assertEqual(adaptive_chance([0, 1], 2), (1, 6))
        self.assertEqual(best_block([0, 1], 2, 2, 2), (4, 2))

    def test_points_56_to_58(self):
        self.assertEqual(alike_classes(self.small), [[0], [1], [2, 3], [4, 5], [6, 7]])
        self.assertEqual(first_apart(self.small, 0, self.small, 2), [0])
        self.assertIs(are_alike(Table([0, 1]), Table([0, 0, 1, 1])), True)
        self.assertEqual(written_apart(self.small, 2, 3), [0])

    def test_points_59_to_62(self):
        desk = replayed(3, self.calls)
        self.assertEqual(desk.costs(), [1, 3])
        self.assertEqual(desk.entries(), [2, 7, 0])
        desk.do(("table", "b", [0, 0, 1, 1, 2, 2, 2, 2]))
        self.assertEqual(desk.best_names(), (5, ["a", "b"]))


class Sessions(unittest.TestCase):
    def test_e02(self):
        with self.assertRaises(InvalidText) as caught:
            numbers_of([7, 1000])
        self.assertEqual(caught.exception.at, 1)

    def test_e03(self):
        found = [order_of_steps(3, 0), spread_by_steps([(0, 9), (1, 6), (2, 1)], [2])]
        spread = [0, 0, 1, 1, 0, 1, 1, 0, 0, 1, 0, 0, 1, 0, 0, 2]
        self.assertEqual(found, [[0, 1, 2, 3, 4, 5, 6, 7], spread])

    def test_e05(self):
        small = Table([0, 0, 0, 0, 0, 1, 1, 2])
        found = [small.row(3), small.rows()[5], small.before(0, 3), small.before(2, 5), small.bits(), small.counts()]
        expected = [(0, 0, 0), (1, 2, 0), (0, 1, 1), (7, 3, 5), 3, [(0, 5), (1, 2), (2, 1)]]
        self.assertEqual(found, expected)

    def test_e06(self):
        with self.assertRaises(InvalidSpread) as caught:
            Table([0, 1, 2])
        self.assertEqual(caught.exception.at, 3)

    def test_e07(self):
        small = Table([0, 0, 0, 0, 0, 1, 1, 2])
        found = [ideal_order([1, 2, 1, 1], 4), ideal_part([1, 2, 1, 1], 10), cost_part(small, [0, 1, 2], 1)]
        self.assertEqual(found + [gap_part(small, [0, 0, 1], 0, 10)], [1, 32, 5, 2])

    def test_e08(self):
        small = Table([0, 0, 0, 0, 0, 1, 1, 2])
        found = [mean_bits(small, [(0, 5), (1, 2), (2, 1)], 0), closed_classes(Table([0, 1]), [0])]
        found += [is_even(small), is_even(Table([0, 1]))]
        self.assertEqual(found, [(49597, 37648), [[0]], False, True])

    def test_e09(self):
        small = Table([0, 0, 0, 0, 0, 1, 1, 2])
        found = [alike_classes(small), first_apart(small, 0, small, 2), written_apart(small, 2, 3)]
        found.append(are_alike(Table([0, 1]), Table([0, 0, 1, 1])))
        self.assertEqual(found, [[[0], [1], [2, 3], [4, 5], [6, 7]], [0], [0], True])

    def test_e10(self):
        found = [renamed(Table([0, 0, 5, 0]), [7, 3]).spread(), renaming(Table([0, 1]), Table([9, 4]))]
        found.append(renaming(Table([0, 1]), Table([2, 2])))
        self.assertEqual(found, [[7, 7, 3, 7], [9, 4], None])

    def test_e203(self):
        small = Table([0, 0, 0, 0, 0, 1, 1, 2])
        with self.assertRaises(InvalidStream) as caught:
            read_whole(small, [0, 1, 0, 1, 0, 0, 0, 1], 2)
        self.assertEqual(caught.exception.at, 7)

    def test_e204(self):
        small = Table([0, 0, 0, 0, 0, 1, 1, 2])
        with self.assertRaises(InvalidBound) as caught:
            read_whole(small, [0, 1, 0, 1, 0, 0, 0], 2, 1)
        self.assertEqual(caught.exception.argument, "last")

    def test_e209(self):
        expected = (1000000000000000000000000000002, 1000000000000000000000000000002)
        self.assertEqual(extremes(Table([7, 8, 7, 8]), 10 ** 30), expected)

    def test_e211(self):
        small = Table([0, 0, 0, 0, 0, 1, 1, 2])
        found = [text_at(small, 2, 3), place_of(small, [2, 0]), text_at(small, 2, 8)]
        self.assertEqual(found, [[2, 0], 3, [2, 2]])

    def test_e215(self):
        small = Table([0, 0, 0, 0, 0, 1, 1, 2])
        half = Table([0, 0, 0, 0, 1, 1, 1, 1])
        found = [write_after(small, [(0, half)], [0, 1]), read_after(small, [(0, half)], [0, 0, 1, 0, 0], 2)]
        self.assertEqual(found, [[0, 0, 1, 0, 0], ([0, 1], 0, 5)])

    def test_e301(self):
        small = Table([0, 0, 0, 0, 0, 1, 1, 2])
        found = [symbols_in(small, [0, 0, 0, 1]), symbols_in(small, [1, 0, 1, 0]), symbols_in(Table([7] * 4), [1, 0])]
        self.assertEqual(found, [(1, 2), None, (0, None)])

    def test_e306(self):
        small = Table([0, 0, 0, 0, 0, 1, 1, 2])
        with self.assertRaises(InvalidStream) as caught:
            completed(small, [0, 2], 1)
        self.assertEqual(caught.exception.at, 1)

    def test_e311(self):
        calls = [("table", "a", [0, 0, 0, 0, 0, 1, 1, 2]), ("block", 0, "a", [0, 2]), ("cut", 0, 1)]
        desk = replayed(3, calls)
        found = [desk.costs(), desk.entries(), desk.written(), desk.best_last()]
        self.assertEqual(found, [[1, 3], [2, 7, 0], [0, 1, 0, 1, 0, 0, 0], (7, 0)])

    def test_e312(self):
        desk = Desk(3)
        found = [desk.do(("table", "a", [0, 0, 0, 0, 0, 1, 1, 2])), desk.do(("block", 0, "a", [0, 2])), desk.do(("cut", 0, 1))]
        found.append(desk.do(("table", "b", [0, 0, 1, 1, 2, 2, 2, 2])))
        self.assertEqual([found, desk.best_names()], [[0, 4, 0, 0], (5, ["a", "b"])])

    def test_e313(self):
        desk = Desk(3)
        with self.assertRaises(InvalidCall) as caught:
            desk.do(("forget", "a"))
        self.assertEqual(caught.exception.call, ("forget", "a"))

    def test_e503(self):
        found = [header_of([(3, 2)]), read_header([1, 0, 0, 0, 1, 0, 1, 0, 1, 1], 1), pack([0, 0, 1], 1), shortest_pack([5], 12)]
        expected = [[0, 0, 0, 1, 0, 1, 0, 1], ([(3, 2)], 9), [0, 0, 0, 1, 1, 0, 1, 0, 0, 1, 0], (11, 1)]
        self.assertEqual(found, expected)

    def test_e505(self):
        with self.assertRaises(InvalidHeader) as caught:
            read_header([0, 0, 0, 0, 0], 1)
        self.assertEqual(caught.exception.at, 1)

    def test_e506(self):
        found = [adaptive_counts([0, 1], 2, 1, 2), write_adaptive([0, 1], 2, 1, 2), read_adaptive([0, 1, 1, 0, 0], 2, 2, 1, 2)]
        found += [adaptive_chance([0, 1], 2), best_block([0, 1], 2, 2, 2)]
        expected = [[[(0, 2), (1, 2)], [(0, 3), (1, 1)]], [0, 1, 1, 0, 0], ([0, 1], [0]), (1, 6), (4, 2)]
        self.assertEqual(found, expected)


if __name__ == "__main__":
    unittest.main()
