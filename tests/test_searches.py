"""Points 41 to 44: costs, spreads by their indices, and the best spreads, counts and tables."""

import itertools
import math
import random
import unittest

from spreadstates.counts import by_rests, numbers_of
from spreadstates.lengths import best_last
from spreadstates.searches import best_spread, cost_of, costs_by_makers, shortest_counts, shortest_table
from spreadstates.searches import spread_at, spread_index, spread_number, standing
from spreadstates.spreads import spread_by_bits, spread_by_runs, spread_by_shares, spread_by_steps
from spreadstates.tables import Table
from tests.definitions import drawn_spread, great_spreads, least_by_definition, small_spreads, texts_of
from tests.samples import bound, drawn_counts, limit, sample_counts, spread_error, symbol_error, text_error, told
from tests.samples import wrong_counts, wrong_items

MAKERS = {"bits": spread_by_bits, "runs": spread_by_runs, "shares": spread_by_shares, "steps": spread_by_steps}
COUNTS = (
    [(0, 1), (1, 1)], [(4, 2)], [(0, 3), (1, 1)], [(0, 2), (1, 1), (2, 1)], [(5, 1), (6, 1), (7, 1), (8, 1)], [(0, 5), (1, 3)],
    [(0, 5), (1, 2), (2, 1)], [(3, 1), (4, 6), (9, 1)], [(0, 4), (1, 4)], [(0, 2), (1, 2), (2, 4)], [(0, 13), (1, 3)],
    [(0, 14), (1, 1), (2, 1)], [(0, 16)],
)


def all_spreads(counts):
    """All spreads for counts in ascending order, by all ways to choose places."""
    spreads = [[]]
    for _ in range(sum(count for _, count in counts)):
        longer = []
        for spread in spreads:
            for symbol, count in counts:
                if spread.count(symbol) < count:
                    longer.append(spread + [symbol])
        spreads = longer
    return spreads


def drawn_text(seed, symbols, many):
    draw = random.Random(seed)
    return [draw.choice(symbols) for _ in range(many)]


def some_texts(counts):
    symbols = [symbol for symbol, _ in counts]
    found = [[], symbols, symbols[:1] * 7, symbols[-1:] * 3 + symbols[:1] * 9]
    return found + [drawn_text(seed, symbols, many) for seed, many in ((1, 2), (2, 5), (3, 12), (4, 40))]


class Costs(unittest.TestCase):
    def test_examples(self):
        self.assertEqual(cost_of(Table([0, 1, 0, 0]), [0, 1]), 2)
        self.assertEqual(spread_at([(0, 3), (1, 1)], 1), [0, 0, 1, 0])
        self.assertEqual(spread_index([0, 0, 1, 0]), 1)

    def test_all_last_states(self):
        for spread in small_spreads():
            table = Table(spread)
            for many in range(4):
                for text in texts_of(spread, many)[:: 1 if many < 3 else 5]:
                    self.assertEqual(cost_of(table, text), least_by_definition(spread, text))

    def test_longer_texts(self):
        for at, spread in enumerate(great_spreads()):
            table = Table(spread)
            many = min(200000 // len(spread), 300)
            text = drawn_text(at, spread, many)
            self.assertEqual(cost_of(table, text), best_last(table, text)[0] - table.bits())
        table = Table([0, 1, 1, 1, 1, 1, 1, 1] * 2)
        text = drawn_text(5, [0, 1, 1, 1, 1, 1, 1, 1, 1], 10000)
        self.assertEqual(cost_of(table, text), best_last(table, text)[0] - 4)

    def test_the_empty_text(self):
        for spread in great_spreads():
            self.assertEqual(cost_of(Table(spread), []), 0)

    def test_limit(self):
        table = Table([0] * 4095 + [1])
        self.assertIsNone(told(cost_of, table, [0] * 48))
        self.assertEqual(told(cost_of, table, [0] * 49), limit(200000))
        self.assertEqual(told(cost_of, table, [0] * 49 + [2]), symbol_error(2))
        self.assertIsNone(told(cost_of, Table([0] * 15 + [1]), [0] * 10000))
        self.assertEqual(told(cost_of, Table([0] * 31 + [1]), [0] * 6251), limit(200000))
        self.assertIsNone(told(cost_of, Table([0] * 31 + [1]), [0] * 6250))

    def test_errors(self):
        self.assertEqual(told(cost_of, [0, 1], None), bound("table"))
        self.assertEqual(told(cost_of, Table([0, 1]), (0,)), text_error(-1))
        self.assertEqual(told(cost_of, Table([0, 1]), [0, 2, None]), text_error(2))
        self.assertEqual(told(cost_of, Table([0, 1]), [0, 2, 3]), symbol_error(2))


class Indices(unittest.TestCase):
    def test_all_spreads_of_small_counts(self):
        for counts in COUNTS:
            spreads = all_spreads(counts)
            self.assertEqual(spreads, sorted(spreads))
            self.assertEqual(spread_number(counts), len(spreads))
            for index, spread in enumerate(spreads):
                self.assertEqual(spread_at(counts, index), spread)
                self.assertEqual(spread_index(spread), index)
            self.assertEqual(told(spread_at, counts, len(spreads)), bound("index"))

    def test_great_counts(self):
        draw = random.Random(41)
        for counts in sample_counts():
            size = sum(count for _, count in counts)
            if size <= 256:
                many = spread_number(counts)
                expected = math.factorial(size)
                for _, count in counts:
                    expected //= math.factorial(count)
                self.assertEqual(many, expected)
                for index in (0, many - 1, draw.randrange(many), draw.randrange(many)):
                    spread = spread_at(counts, index)
                    self.assertEqual(Table(spread).counts(), counts)
                    self.assertEqual(spread_index(spread), index)
                self.assertEqual(spread_at(counts, 0), spread_by_runs(counts))
                self.assertEqual(spread_at(counts, many - 1), spread_by_runs(counts)[::-1])
                self.assertEqual(told(spread_at, counts, many), bound("index"))

    def test_great_spreads_turned_about(self):
        for spread in great_spreads():
            if len(spread) <= 256:
                self.assertEqual(spread_at(Table(spread).counts(), spread_index(spread)), spread)

    def test_limits(self):
        for bits in (9, 10, 12):
            counts = drawn_counts(bits, bits, 30)
            self.assertEqual(told(spread_number, counts), limit(256))
            self.assertEqual(told(spread_at, counts, 0), limit(256))
            self.assertEqual(told(spread_at, counts, 10 ** 50), limit(256))
            self.assertEqual(told(spread_at, counts, -1), bound("index"))
            self.assertEqual(told(spread_at, [(7, 2 ** bits)], 1), bound("index"))
            self.assertEqual(told(spread_at, [(7, 2 ** bits)], 0), limit(256))
            self.assertEqual(told(spread_index, drawn_spread(bits, bits, 5)), limit(256))
            self.assertEqual(told(spread_index, [0] * (2 ** bits - 1) + [1000]), spread_error(2 ** bits - 1))
        self.assertEqual(told(spread_at, [(0, 511), (1, 1)], 512), bound("index"))
        self.assertEqual(told(spread_at, [(0, 511), (1, 1)], 511), limit(256))
        self.assertEqual(spread_at([(0, 255), (1, 1)], 255), [1] + [0] * 255)

    def test_errors(self):
        for name, value in wrong_counts().items():
            with self.subTest(name=name):
                self.assertEqual(told(spread_number, value), bound("counts"))
                self.assertEqual(told(spread_at, value, None), bound("counts"))
        for name, value in wrong_items().items():
            with self.subTest(name=name):
                self.assertEqual(told(spread_at, [(0, 3), (1, 1)], value), bound("index"))
                expected = spread_error(len(value) if isinstance(value, list) else -1)
                if value != [0, 2]:
                    self.assertEqual(told(spread_index, value), expected)
        self.assertEqual(told(spread_index, [0, True]), spread_error(1))
        self.assertEqual(told(spread_at, [(0, 3), (1, 1)], -1), bound("index"))


class BestSpreads(unittest.TestCase):
    def test_examples(self):
        self.assertEqual(best_spread([(0, 3), (1, 1)], [0, 1]), (2, [0, 1, 0, 0], 2))
        self.assertEqual(standing([0, 0, 0, 1], [0, 1]), (2, 2, 0))

    def test_against_all_spreads(self):
        unlike = 0
        for counts in COUNTS:
            spreads = all_spreads(counts)
            for text in some_texts(counts) if len(spreads) < 100 else some_texts(counts)[4:7]:
                costs = [least_by_definition(spread, text) for spread in spreads]
                least = min(costs)
                expected = (least, spreads[costs.index(least)], costs.count(least))
                self.assertEqual(best_spread(counts, text), expected)
                unlike += len(set(costs)) > 1
                for at in range(0, len(spreads), 1 + len(spreads) // 6):
                    less = sum(cost < costs[at] for cost in costs)
                    expected = (less, costs.count(costs[at]), len(costs) - less - costs.count(costs[at]))
                    self.assertEqual(standing(spreads[at], text), expected)
        self.assertGreater(unlike, 20)

    def test_powers_of_two_cost_the_same(self):
        for counts in ([(0, 2), (1, 2), (2, 4)], [(0, 4), (1, 4)], [(0, 1), (1, 1), (2, 2)], [(0, 8), (1, 4), (3, 2), (4, 2)][:0] or [(9, 8)]):
            for text in some_texts(counts):
                number = spread_number(counts)
                cost, spread, many = best_spread(counts, text)
                self.assertEqual((spread, many), (spread_by_runs(counts), number))
                self.assertEqual(standing(spread_at(counts, number // 2), text), (0, number, 0))
                self.assertEqual(cost, sum((sum(c for _, c in counts) // dict(counts)[s]).bit_length() - 1 for s in text))

    def test_the_empty_text(self):
        self.assertEqual(best_spread([(0, 3), (1, 1)], []), (0, [0, 0, 0, 1], 4))
        self.assertEqual(standing([0, 1, 0, 0], []), (0, 4, 0))

    def test_limits(self):
        kept = [(0, 4), (1, 2), (2, 1), (3, 1)]
        self.assertIsNone(told(best_spread, kept, [0] * 40))
        self.assertEqual(told(best_spread, kept, [0] * 41), limit(40))
        self.assertEqual(told(standing, spread_by_runs(kept), [0] * 41), limit(40))
        self.assertIsNone(told(standing, spread_by_runs(kept), [0] * 40))
        great = [(0, 31), (1, 1)]
        self.assertEqual(told(best_spread, great, [0] * 41), limit(16))
        self.assertEqual(told(standing, spread_by_runs(great), [0] * 41), limit(16))
        self.assertEqual(told(best_spread, great, [0] * 41 + [2]), symbol_error(2))
        # 1820 and 2520 spreads are kept, 3360 and 4368 are not.
        for counts, is_kept in (([(0, 12), (1, 4)], True), ([(0, 4), (1, 3), (2, 1)][:2] + [(3, 1)], True),
                                ([(0, 11), (1, 5)], False), ([(0, 3), (1, 2), (2, 1), (3, 1), (4, 1)], False),
                                ([(0, 13), (1, 2), (2, 1)], True), ([(0, 13), (1, 1), (2, 1), (3, 1)], False)):
            expected = None if is_kept else limit(3000)
            self.assertEqual(told(best_spread, counts, [0]), expected)
            self.assertEqual(told(standing, spread_by_runs(counts), [0]), expected)

    def test_errors(self):
        for name, value in wrong_counts().items():
            with self.subTest(name=name):
                self.assertEqual(told(best_spread, value, None), bound("counts"))
        self.assertEqual(told(best_spread, [(0, 3), (1, 1)], None), text_error(-1))
        self.assertEqual(told(best_spread, [(0, 3), (1, 1)], [2, 1000]), text_error(1))
        self.assertEqual(told(best_spread, [(0, 3), (1, 1)], [0, 5, 4]), symbol_error(5))
        self.assertEqual(told(standing, None, None), spread_error(-1))
        self.assertEqual(told(standing, [0, 1, 2], None), spread_error(3))
        self.assertEqual(told(standing, [0, 1, 2, 1000], None), spread_error(3))
        self.assertEqual(told(standing, [0, 1, 2, 9], None), text_error(-1))
        self.assertEqual(told(standing, [0, 1, 2, 9], [9, 8, 7]), symbol_error(8))

    def test_kinds(self):
        found = best_spread([(0, 3), (1, 1)], [0, 1])
        self.assertEqual([type(found)] + [type(part) for part in found], [tuple, int, list, int])
        found = standing([0, 1], [0])
        self.assertEqual([type(found)] + [type(part) for part in found], [tuple, int, int, int])


class Makers(unittest.TestCase):
    def test_examples(self):
        expected = [("bits", 3), ("runs", 3), ("shares", 3), ("steps", 3)]
        self.assertEqual(costs_by_makers([(0, 3), (1, 1)], [0, 1]), expected)
        self.assertEqual(shortest_counts([0, 0, 1], 2, "runs"), (3, [(0, 2), (1, 2)]))
        self.assertEqual(shortest_table([0, 0, 1], 3, "runs"), (4, 1))

    def test_costs_of_all_makers(self):
        unlike = 0
        for counts in COUNTS:
            for text in some_texts(counts):
                expected = [(maker, least_by_definition(MAKERS[maker](counts), text)) for maker in sorted(MAKERS)]
                self.assertEqual(costs_by_makers(counts, text), expected)
                unlike += len({cost for _, cost in expected}) > 1
        for counts in sample_counts()[::3]:
            text = drawn_text(43, [symbol for symbol, _ in counts], 30)
            for maker, cost in costs_by_makers(counts, text):
                table = Table(MAKERS[maker](counts))
                self.assertEqual(cost, best_last(table, text)[0] - table.bits())
        self.assertGreater(unlike, 5)

    def test_costs_errors(self):
        for name, value in wrong_counts().items():
            with self.subTest(name=name):
                self.assertEqual(told(costs_by_makers, value, None), bound("counts"))
        great = [(0, 4095), (1, 1)]
        self.assertEqual(told(costs_by_makers, great, None), text_error(-1))
        self.assertEqual(told(costs_by_makers, great, [0] * 49 + [2]), symbol_error(2))
        self.assertEqual(told(costs_by_makers, great, [0] * 49), limit(200000))
        self.assertIsNone(told(costs_by_makers, great, [0] * 48))

    def all_counts(self, symbols, size):
        found = [list(counts) for counts in itertools.product(range(1, size + 1), repeat=len(symbols))]
        return sorted(list(zip(symbols, counts)) for counts in found if sum(counts) == size)

    def test_shortest_counts_against_all(self):
        texts = [[5], [5, 5, 9], [0, 1, 2], [0, 0, 0, 1], [3, 3, 3, 3, 3, 3, 3, 3, 3, 7, 8], drawn_text(1, [0, 1, 1, 2], 40)]
        for text in texts + [drawn_text(seed, [0, 0, 0, 5, 6], 20) for seed in range(4)]:
            symbols = sorted(set(text))
            for bits in (1, 2, 3, 4):
                if len(symbols) <= 2 ** bits and (bits < 4 or len(symbols) < 3):
                    for maker in MAKERS:
                        rows = [(least_by_definition(MAKERS[maker](counts), text), counts)
                                for counts in self.all_counts(symbols, 2 ** bits)]
                        self.assertEqual(shortest_counts(text, bits, maker), min(rows))

    def test_shortest_counts_limits(self):
        four = [0, 1, 2, 3]
        self.assertIsNone(told(shortest_counts, four * 10, 4, "bits"))
        self.assertEqual(told(shortest_counts, four * 10 + [0], 12, "bits"), limit(40))
        self.assertEqual(told(shortest_counts, list(range(40)), 6, "bits"), limit(5))
        self.assertEqual(told(shortest_counts, list(range(40)), 5, "bits"), limit(32))
        self.assertEqual(told(shortest_counts, four, 1, "bits"), limit(2))
        # 455 and 465 counts are kept, 1365 and 4495 are not.
        self.assertIsNone(told(shortest_counts, [0, 1, 2], 5, "shares"))
        self.assertIsNone(told(shortest_counts, four, 4, "shares"))
        self.assertEqual(told(shortest_counts, four, 5, "shares"), limit(500))
        self.assertEqual(told(shortest_counts, [0, 1, 2, 3, 4], 4, "shares"), limit(500))
        self.assertEqual(shortest_counts(list(range(32)), 5, "runs")[1], [(symbol, 1) for symbol in range(32)])

    def test_shortest_counts_errors(self):
        self.assertEqual(told(shortest_counts, [], 0, "x"), text_error(0))
        self.assertEqual(told(shortest_counts, "text", 0, "x"), text_error(-1))
        self.assertEqual(told(shortest_counts, [0] * 50 + [-1], 0, "x"), text_error(50))
        for bits in (0, 13, True, None, "1"):
            self.assertEqual(told(shortest_counts, [0] * 50, bits, "x"), bound("bits"))
        self.wrong_makers(lambda maker: shortest_counts([0] * 50, 12, maker))

    def wrong_makers(self, action):
        for maker in ("x", "", "Bits", "bits ", "by_bits", b"bits", ["bits"], ("bits",), 0, None, True):
            self.assertEqual(told(action, maker), bound("maker"))
        for value in wrong_items().values():
            self.assertEqual(told(action, value), bound("maker"))

    def test_shortest_table_against_all(self):
        texts = [[5], [5, 5, 9], [0, 1, 2], [3] * 9 + [7, 8], drawn_text(1, list(range(30)), 60), list(range(9))]
        chosen = set()
        for text in texts + [drawn_text(seed, [0] * seed + [5, 6], 100) for seed in range(1, 30, 5)]:
            for most in (1, 3, 5, 7):
                if len(set(text)) <= 2 ** most:
                    for maker in MAKERS:
                        rows = []
                        for bits in range(1, most + 1):
                            if len(set(text)) <= 2 ** bits:
                                spread = MAKERS[maker](by_rests(numbers_of(text), bits))
                                rows.append((best_last(Table(spread), text)[0], bits))
                        self.assertEqual(shortest_table(text, most, maker), min(rows))
                        chosen.add(min(rows)[1])
        self.assertGreaterEqual(chosen, {1, 2, 3, 4, 5})

    def test_shortest_table_limits(self):
        self.assertIsNone(told(shortest_table, [0, 1] * 100, 10, "steps"))
        self.assertEqual(told(shortest_table, [0, 1] * 100 + [2], 1, "steps"), limit(200))
        self.assertEqual(told(shortest_table, [0, 1, 2], 1, "steps"), limit(2))
        self.assertEqual(told(shortest_table, list(range(17)), 4, "steps"), limit(16))
        self.assertEqual(shortest_table(list(range(16)), 4, "steps"), (68, 4))
        self.assertEqual(shortest_table(list(range(200)), 8, "runs")[1], 8)

    def test_shortest_table_errors(self):
        self.assertEqual(told(shortest_table, [], 0, "x"), text_error(0))
        self.assertEqual(told(shortest_table, {}, 0, "x"), text_error(-1))
        for most in (0, 11, True, None, "1"):
            self.assertEqual(told(shortest_table, [0] * 201, most, "x"), bound("most"))
        self.wrong_makers(lambda maker: shortest_table([0] * 201, 10, maker))

    def test_kinds(self):
        found = shortest_counts([0, 0, 1], 2, "runs")
        self.assertEqual([type(found)] + [type(part) for part in found], [tuple, int, list])
        found = costs_by_makers([(0, 3), (1, 1)], [0, 1])
        self.assertEqual([type(found)] + [type(part) for part in found], [list] + [tuple] * 4)
        found = shortest_table([0, 0, 1], 3, "runs")
        self.assertEqual([type(found)] + [type(part) for part in found], [tuple, int, int])


if __name__ == "__main__":
    unittest.main()
