"""What the document promises over several of its stages."""

import random
import unittest
from fractions import Fraction

from spreadstates.adaptive import adaptive_counts, read_adaptive, write_adaptive
from spreadstates.alike import alike_classes, are_alike, first_apart, partner, renamed
from spreadstates.coding import cut, joined, read, read_whole, write
from spreadstates.counts import by_product, by_rests, numbers_of, product_order
from spreadstates.damage import verdict
from spreadstates.desks import replayed
from spreadstates.entropy import cost_part, gap_part, ideal_order, ideal_part, mean_bits, mean_gap
from spreadstates.headers import header_of, pack, read_escaped, read_header, shortest_pack, unpack, write_escaped
from spreadstates.lengths import best_last, extremes, length, lengths, means
from spreadstates.searches import cost_of, costs_by_makers, shortest_table, spread_at, spread_index
from spreadstates.spreads import spread_by_bits, spread_by_runs, spread_by_shares, spread_by_steps
from spreadstates.streams import count_streams, stream_at, streams_ahead, symbols_in, text_share
from spreadstates.tables import Table, table_of_rows
from spreadstates.weaving import read_after, read_woven, tables_after, unwoven, woven, write_after, write_woven
from tests.definitions import drawn_spread, small_spreads

MAKERS = {"bits": spread_by_bits, "runs": spread_by_runs, "shares": spread_by_shares, "steps": spread_by_steps}


def drawn_text(seed, many, symbols=9):
    draw = random.Random(seed)
    return [min(draw.randrange(symbols), draw.randrange(symbols)) for _ in range(many)]


class Ways(unittest.TestCase):
    def test_a_text_through_all_stages_and_back(self):
        for seed in range(12):
            text = drawn_text(seed, 10 + 20 * seed)
            numbers = numbers_of(text)
            for bits in (4, 6, 9):
                for counts in (by_rests(numbers, bits), by_product(numbers, bits) if bits < 9 else by_rests(numbers, bits)):
                    self.assertEqual(sum(count for _, count in counts), 2 ** bits)
                    self.assertEqual([symbol for symbol, _ in counts], [symbol for symbol, _ in numbers])
                    self.assertEqual(read_header(header_of(counts))[0], counts)
                    for make in MAKERS.values():
                        spread = make(counts)
                        table = Table(spread)
                        self.assertEqual(table.counts(), counts)
                        self.assertEqual(table_of_rows(table.rows()), table)
                        if bits < 9:
                            self.assertEqual(spread_at(counts, spread_index(spread)), spread)
                        bits_in_all, last = best_last(table, text)
                        stream = write(table, text, last)
                        self.assertEqual(len(stream), bits_in_all)
                        self.assertEqual(bits_in_all - bits, cost_of(table, text))
                        packed = header_of(counts) + stream
                        told, at = read_header(packed)
                        again = Table(make(told))
                        self.assertEqual(read_whole(again, packed[at:], len(text), last), text)
                        self.assertEqual(verdict(again, packed[at:], len(text), last), ("good",))
                        least, greatest = symbols_in(table, stream)
                        self.assertTrue(least <= len(text) <= greatest)

    def test_packs_are_headers_and_streams(self):
        for seed in range(10):
            text = drawn_text(seed, 60)
            for bits in (4, 7):
                counts = by_rests(numbers_of(text), bits)
                stream = pack(text, bits, 3)
                self.assertEqual(stream, header_of(counts) + write(Table(spread_by_steps(counts)), text, 3))
                self.assertEqual(unpack(stream, 60), (text, 3))
            least, bits = shortest_pack(text, 8)
            self.assertEqual(least, len(pack(text, bits)))

    def test_the_best_counts_by_product_are_not_worse(self):
        for seed in range(10):
            numbers = numbers_of(drawn_text(seed, 200))
            for bits in (4, 6, 8):
                self.assertIn(product_order(numbers, by_product(numbers, bits), by_rests(numbers, bits)), (0, 1))

    def test_one_state_by_other_ways_is_as_by_writing(self):
        for seed in range(30):
            draw = random.Random(seed)
            spread = drawn_spread(seed, 1 + seed % 7, 1 + seed % 5 if seed % 7 else 2)
            table = Table(spread)
            text = [draw.choice(spread) for _ in range(draw.randrange(1, 40))]
            last = draw.randrange(len(spread))
            stream = write(table, text, last)
            self.assertEqual(write_woven([table], 1, text, [last]), stream)
            self.assertEqual(write_woven([table] * 5, 1, text, [last]), stream)
            self.assertEqual(write_after(table, [], text, last), stream)
            self.assertEqual(write_after(table, [(symbol, table) for symbol in sorted(set(spread))], text, last), stream)
            calls = [("table", "a", spread), ("table", "other", spread), ("last", last), ("block", 0, "a", text)]
            for at in range(len(text) - 1, 0, -3):
                calls += [("cut", 0, at), ("switch", 1, "other")]
            desk = replayed(table.bits(), calls)
            self.assertEqual(desk.written(), stream)
            self.assertEqual(desk.length(), length(table, text, last))
            self.assertEqual(desk.best_last(), best_last(table, text))
            self.assertEqual([symbol for part in desk.read(stream)[0] for symbol in part], text)
            self.assertEqual(read_woven([table], 1, stream, len(text)), (text, [last], len(stream)))
            self.assertEqual(read_after(table, [], stream, len(text)), read(table, stream, len(text)))
            self.assertEqual(woven(table, unwoven(table, 1, stream, len(text)), len(text)), stream)

    def test_adaptive_blocks_are_blocks_on_a_desk(self):
        for seed in range(10):
            text = drawn_text(seed, 30, 4)
            for block in (1, 7, 30):
                all_counts = adaptive_counts(text, 4, block, 4)
                calls = [("last", 5)]
                for at, counts in enumerate(all_counts):
                    name = "abcdefghijklmnopqrstuvwxyz"[at % 26] * (1 + at // 26)
                    calls.append(("table", name, spread_by_steps(counts)))
                    calls.append(("block", at, name, text[at * block:(at + 1) * block]))
                desk = replayed(4, calls)
                stream = write_adaptive(text, 4, block, 4, last=5)
                self.assertEqual(desk.written(), stream)
                self.assertEqual(read_adaptive(stream, 30, 4, block, 4), (text, [5]))
            even = Table(spread_by_steps(by_rests([(symbol, 1) for symbol in range(4)], 4)))
            self.assertEqual(write_adaptive(text, 4, 30, 4, last=5), write(even, text, 5))

    def test_tables_in_turns_are_blocks_of_one_symbol(self):
        for seed in range(10):
            spreads = [drawn_spread(seed + at, 4, 3) for at in range(3)]
            draw = random.Random(seed)
            text = [draw.choice(spreads[at % 3]) for at in range(20)]
            calls = [("table", "abc"[at], spread) for at, spread in enumerate(spreads)] + [("last", 9)]
            calls += [("block", at, "abc"[at % 3], [symbol]) for at, symbol in enumerate(text)]
            stream = write_woven([Table(spread) for spread in spreads], 1, text, [9])
            self.assertEqual(replayed(4, calls).written(), stream)

    def test_tables_behind_symbols_are_blocks_of_one_symbol(self):
        for seed in range(10):
            text = drawn_text(seed, 25, 4)
            first, tables = tables_after(text, 4)
            names = dict(tables)
            calls = [("table", "first", first.spread())] + [("table", "abcd"[s], table.spread()) for s, table in tables]
            for at, symbol in enumerate(text):
                ahead = text[at - 1] if at else None
                calls.append(("block", at, "abcd"[ahead] if ahead in names else "first", [symbol]))
            self.assertEqual(replayed(4, calls).written(), write_after(first, tables, text))

    def test_without_escapes_it_is_as_by_writing(self):
        table = Table([0, 0, 1, 1, 2, 2, 2, 9])
        for seed in range(10):
            text = drawn_text(seed, 25, 3)
            stream = write_escaped(table, text, 9, 4, 6)
            self.assertEqual(stream, write(table, text, 6))
            self.assertEqual(read_escaped(table, stream, 25, 9, 4), (text, 6))

    def test_cutting_and_joining(self):
        for seed in range(10):
            text = drawn_text(seed, 25, 4)
            table = Table(spread_by_shares(by_rests(numbers_of(text), 5)))
            stream = write(table, text, 7)
            for many in range(26):
                first, second = cut(table, stream, many)
                self.assertEqual(joined(table, first, many, second), stream)
                desk = replayed(5, [("table", "a", table.spread()), ("block", 0, "a", text), ("last", 7)])
                if 0 < many < 25:
                    desk.do(("cut", 0, many))
                    self.assertEqual(desk.entries()[1], int("".join(map(str, second[:5])), 2))
                    self.assertEqual(desk.costs(), [len(first) - 5, len(second) - 5])

    def test_streams_in_order(self):
        for spread in small_spreads()[::5]:
            table = Table(spread)
            many = count_streams(table, 3)
            for number in range(0, many, 1 + many // 9):
                stream = stream_at(table, 3, number)
                text, last, used = read(table, stream, 3)
                self.assertEqual(used, len(stream))
                self.assertEqual(write(table, text, last), stream)
                self.assertEqual(streams_ahead(table, stream, 3), number)
                self.assertEqual(Fraction(*text_share(table, text)), sum(Fraction(1, 2 ** n) for n in lengths(table, text)))


class Likeness(unittest.TestCase):
    def test_tables_that_are_alike_agree(self):
        pairs = [([0, 1], [0, 0, 1, 1]), ([0, 0, 1, 2], [2, 0, 1, 0]), ([0, 1, 2, 2], [0, 1, 0, 1, 2, 2, 2, 2])]
        for spread in small_spreads():
            pairs.append((spread, spread))
        for seed in range(200):
            draw = random.Random(seed)
            one = drawn_spread(seed, 3, 2 + seed % 2)
            other = list(one)
            draw.shuffle(other)
            if set(one) == set(other) and are_alike(Table(one), Table(other)):
                pairs.append((one, other))
        self.assertGreater(len(pairs), 40)
        for one, other in pairs:
            draw = random.Random(len(one))
            here, there = Table(one), Table(other)
            symbols = sorted(set(one))
            self.assertTrue(are_alike(here, there))
            self.assertEqual(means(here), means(there))
            weights = [(symbol, draw.randrange(1, 9)) for symbol in symbols]
            for many in (0, 1, 2, 7, 40):
                text = [draw.choice(symbols) for _ in range(many)]
                self.assertEqual(cost_of(here, text), cost_of(there, text))
                costs = [bits - here.bits() for bits in lengths(here, text)]
                others = [bits - there.bits() for bits in lengths(there, text)]
                self.assertEqual(set(costs), set(others))
                for last in range(len(one)):
                    self.assertEqual(costs[last], others[partner(here, last, there)])
            for last in range(len(one)):
                like = partner(here, last, there)
                self.assertIsNone(first_apart(here, last, there, like))
                self.assertEqual(mean_bits(here, weights, last), mean_bits(there, weights, like))
            for many in range(4):
                least, greatest = extremes(here, many)
                self.assertEqual((least - here.bits() + there.bits(), greatest - here.bits() + there.bits()), extremes(there, many))

    def test_states_that_are_alike_cost_the_same(self):
        for spread in small_spreads():
            table = Table(spread)
            classes = alike_classes(table)
            text = [random.Random(3).choice(spread) for _ in range(30)]
            costs = lengths(table, text)
            for states in classes:
                self.assertEqual(len({costs[state] for state in states}), 1)
                weights = [(symbol, 1 + symbol % 3) for symbol in sorted(set(spread))]
                self.assertEqual(len({mean_bits(table, weights, state) for state in states}), 1)

    def test_renamed_tables_do_the_same(self):
        for spread in small_spreads():
            symbols = sorted(set(spread))
            names = [999 - 7 * at for at in range(len(symbols))]
            table, other = Table(spread), renamed(Table(spread), names)
            self.assertEqual(means(table), means(other))
            weights = [(symbol, at + 1) for at, symbol in enumerate(symbols)]
            others = sorted((names[at], at + 1) for at in range(len(symbols)))
            for last in range(len(spread)):
                self.assertEqual(mean_bits(table, weights, last), mean_bits(other, others, last))

    def test_lengths_and_ideals(self):
        for seed in range(20):
            text = drawn_text(seed, 80)
            for bits in (4, 5, 8):
                table = Table(spread_by_steps(by_rests(numbers_of(text), bits)))
                self.assertGreaterEqual(cost_part(table, text, 64), ideal_part(text, 64))
                for last in (0, 7):
                    whole = ideal_part(text, 1)
                    more = whole if ideal_order(text, whole) == 0 else whole + 1
                    self.assertEqual(gap_part(table, text, last, 1), length(table, text, last) - bits - more)
                if bits < 6:
                    self.assertGreaterEqual(mean_gap(table, numbers_of(text), 0, 16), 0)

    def test_costs_by_makers_are_those_of_tables(self):
        for seed in range(10):
            text = drawn_text(seed, 60, 5)
            counts = by_rests(numbers_of(text), 4)
            costs = dict(costs_by_makers(counts, text))
            for maker in sorted(MAKERS):
                self.assertEqual(costs[maker], cost_of(Table(MAKERS[maker](counts)), text))
                least, bits = shortest_table(text, 4, maker)
                self.assertLessEqual(least, costs[maker] + 4)
                self.assertLessEqual(bits, 4)


if __name__ == "__main__":
    unittest.main()
