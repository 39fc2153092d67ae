"""Long texts, streams and blocks, where the program goes by other ways than with short ones: the same answers and errors."""

import random
import unittest

from spreadstates.adaptive import read_adaptive, write_adaptive
from spreadstates.coding import cut, joined, read, read_whole, steps, write
from spreadstates.counts import by_rests, numbers_of
from spreadstates.desks import Desk, replayed
from spreadstates.errors import InvalidCall
from spreadstates.headers import header_of, pack, read_header, unpack
from spreadstates.lengths import length
from spreadstates.spreads import order_of_steps, spread_by_steps
from spreadstates.streams import symbols_in
from spreadstates.tables import Table
from tests.definitions import digits, drawn_spread, great_spreads, places_of, rows_of
from tests.samples import bound, header_error, stream_error, symbol_error, text_error, told, wrong_items

# Few and many states, frequent symbols without bits, rare ones with many, one symbol alone.
SPREADS = (
    [0, 0, 0, 0, 0, 1, 1, 2], [5, 9], drawn_spread(1, 6, 5), drawn_spread(2, 8, 40), drawn_spread(3, 12, 700),
    [4] * 4000 + list(range(10, 106)), [7] * 64, [3] + [8] * 1023,
)


def drawn_text(seed, spread, many):
    draw = random.Random(seed)
    return [draw.choice(spread) for _ in range(many)]


def steps_by_rows(spread, stream, many):
    """The tuples of `steps`, and the last state and the bits that are used, by the rows of point 13."""
    rows = rows_of(spread)
    at = len(spread).bit_length() - 1
    state = int("".join(str(bit) for bit in stream[:at]), 2)
    passed = []
    for _ in range(many):
        symbol, bits, base = rows[state]
        number = int("0" + "".join(str(bit) for bit in stream[at:at + bits]), 2)
        passed.append((state, symbol, bits, number))
        state = base + number
        at += bits
    return passed, state, at


def wrong_among(*more):
    """The tuples (name, item) of the wrong items, and of more of them."""
    return list(wrong_items().items()) + [("pair", (0, 1)), ("below 0", -1), ("far", 10 ** 40)] + [
        (str(item), item) for item in more
    ]


class Streams(unittest.TestCase):
    def test_there_and_back(self):
        for seed, spread in enumerate(SPREADS):
            for many in (1, 90, 1000, 10000):
                with self.subTest(seed=seed, many=many):
                    table = Table(spread)
                    text = drawn_text(seed, spread, many)
                    last = seed % len(spread)
                    stream = write(table, text, last)
                    self.assertEqual({type(bit) for bit in stream}, {int})
                    self.assertEqual(length(table, text, last), len(stream))
                    passed, end, used = steps_by_rows(spread, stream, many)
                    self.assertEqual(([symbol for _, symbol, _, _ in passed], end, used), (text, last, len(stream)))
                    self.assertEqual(steps(table, stream, many), passed)
                    self.assertEqual(read(table, stream, many), (text, last, len(stream)))
                    self.assertEqual(read_whole(Table(spread), stream, many, last), text)

    def test_bits_that_follow_and_bits_that_are_missing(self):
        for seed, spread in enumerate(SPREADS):
            table = Table(spread)
            text = drawn_text(seed, spread, 3000)
            stream = write(table, text)
            for many in (0, 1, 1500, 2999, 3000):
                passed, end, used = steps_by_rows(spread, stream, many)
                with self.subTest(seed=seed, many=many):
                    self.assertEqual(read(table, stream + [1, 0, 1], many), (text[:many], end, used))
                    self.assertEqual(steps(table, stream, many), passed)
                    one, other = cut(table, stream, many)
                    self.assertEqual(joined(table, one, many, other), stream)
            needed = [bits for _, _, bits, _ in passed]
            if sum(needed) > 0:
                for less in (1, 2, 11, 12):
                    self.assertEqual(told(read, table, stream[:-less], 3000), stream_error(len(stream) - less))
                self.assertEqual(told(read_whole, table, stream, 2000)[0], "InvalidStream")

    def test_symbols_in_long_streams(self):
        for seed, spread in enumerate(SPREADS):
            table = Table(spread)
            if len(table.counts()) > 1:
                text = drawn_text(seed, spread, 4000)
                stream = write(table, text)
                width = table.bits()
                first = int("".join(str(bit) for bit in stream[:width]), 2)
                for bits in (stream, stream[:-1], stream + [1]):
                    places = places_of(spread, first, bits[width:], 20000)
                    right = [many for many, (_, used) in enumerate(places) if used == len(bits) - width]
                    expected = (right[0], right[-1]) if right else None
                    with self.subTest(seed=seed, bits=len(bits)):
                        self.assertEqual(symbols_in(table, bits), expected)

    def test_wrong_items(self):
        table = Table(SPREADS[3])
        text = drawn_text(3, SPREADS[3], 2000)
        stream = write(table, text)
        desk = replayed(8, [("table", "a", SPREADS[3]), ("block", 0, "a", text)])
        for place in (0, 7, 8, 3000, len(stream) - 1):
            for name, item in wrong_among(2):
                bits = list(stream)
                bits[place] = item
                bits[-1] = bits[-1] if place == len(stream) - 1 else True
                with self.subTest(place=place, item=name):
                    for many in (0, 2000, 10000):
                        self.assertEqual(told(read, table, bits, many), stream_error(place))
                        self.assertEqual(told(steps, table, bits, many), stream_error(place))
                    self.assertEqual(told(read, table, bits, -1), stream_error(place))
                    self.assertEqual(told(read_whole, table, bits, 2000, 256), stream_error(place))
                    self.assertEqual(told(symbols_in, table, bits), stream_error(place))
                    self.assertEqual(told(desk.read, bits), stream_error(place))
                    self.assertEqual(told(unpack, bits, 2000), header_error(place))
        self.assertEqual(told(read, table, stream, 10001), bound("many"))
        self.assertEqual(told(read_whole, table, stream, 2000, 256), bound("last"))

    def test_wide_symbols(self):
        for spread in great_spreads()[-8:]:
            table = Table(spread)
            for many in (149, 150, 151, 400):
                text = drawn_text(many, spread, many)
                stream = write(table, text, 4095)
                passed, end, used = steps_by_rows(spread, stream, many)
                self.assertEqual((passed, end, used), (steps(table, stream, many), 4095, len(stream)))
                self.assertEqual([symbol for _, symbol, _, _ in passed], text)
                self.assertEqual(stream[:12], digits(passed[0][0], 12))


class Texts(unittest.TestCase):
    def test_wrong_items(self):
        table = Table([0, 1, 2, 2])
        text = [0, 1, 2] * 3000
        for place in (0, 5000, 8999):
            for name, item in wrong_among(1000):
                wrong = list(text)
                wrong[place] = item
                with self.subTest(place=place, item=name):
                    self.assertEqual(told(write, table, wrong), text_error(place))
                    self.assertEqual(told(length, table, [3] + wrong, 9), text_error(place + 1))
                    self.assertEqual(told(numbers_of, wrong), text_error(place))

    def test_symbols_that_the_table_has_not(self):
        table = Table([0, 1, 2, 2])
        text = [0, 1, 2] * 3000
        for place in (0, 5000, 8999):
            wrong = text[:place] + [999] + text[place + 1:] + [3]
            self.assertEqual(told(write, table, wrong), symbol_error(999))
            self.assertEqual(told(length, table, wrong, -1), symbol_error(999))
            self.assertEqual(told(write, table, wrong + [None]), text_error(9001))
            self.assertEqual(told(write, table, wrong * 2), text_error(10000))

    def test_bounds_of_numbers(self):
        great = 10 ** 30
        self.assertEqual(by_rests([(0, great), (1, great), (999, great)], 2), [(0, 2), (1, 1), (999, 1)])
        for numbers in (
            [(0, 1), (1, great + 1)], [(0, great + 1), (1, 1)], [(0, great), (999, great), (1000, 1)],
            [(0, great), (1, great), (2, great + 1), (3, great)], [(998, 1), (999, 1), (1000, 1)],
        ):
            self.assertEqual(told(by_rests, numbers, 4), bound("numbers"))

    def test_all_places_of_steps(self):
        for bits in range(1, 13):
            size = 2 ** bits
            step = size // 2 + size // 8 + 3
            step += 1 - step % 2
            places = [turn * step % size for turn in range(size)]
            self.assertEqual(order_of_steps(bits, 0), places)
            symbols = min(size, 1000)
            counts = [(symbol, 1) for symbol in range(symbols - 1)] + [(symbols - 1, size - symbols + 1)]
            runs = [symbol for symbol, count in counts for _ in range(count)]
            spread = spread_by_steps(counts)
            self.assertEqual([spread[place] for place in places], runs)


class Headers(unittest.TestCase):
    def test_gaps(self):
        for gap in list(range(1, 60)) + [500, 960, 989, 995]:
            for counts in ([(0, 3), (gap + 1, 1)], [(gap, 4)], [(gap, 1), (gap + 2, 3)]):
                left = 4
                bits = digits(2, 4)
                ahead = -1
                for symbol, count in counts:
                    zeros = symbol - ahead - 1
                    number, many = (count, left + 1) if zeros == 0 else (count - 1, left)
                    if zeros > 0:
                        bits += digits(0, (left + 1).bit_length() - 1)
                        bits += [1, 1] * ((zeros - 1) // 3) + digits((zeros - 1) % 3, 2)
                    width = many.bit_length() - 1
                    short = 2 ** (width + 1) - many
                    bits += digits(number, width) if number < short else digits(number + short, width + 1)
                    left -= count
                    ahead = symbol
                with self.subTest(counts=counts):
                    self.assertEqual(header_of(counts), bits)
                    self.assertEqual(read_header(bits + [1]), (counts, len(bits)))

    def test_long_packs(self):
        for seed, spread in enumerate(SPREADS[:5]):
            text = drawn_text(seed, spread, 5000)
            for bits in (10, 12):
                stream = pack(text, bits, 3)
                table = Table(spread_by_steps(by_rests(numbers_of(text), bits)))
                expected = header_of(table.counts()) + write(table, text, 3)
                self.assertEqual(stream, expected)
                self.assertEqual(unpack(stream, 5000), (text, 3))

    def test_long_blocks(self):
        text = [at * at // 7 % 9 for at in range(5000)]
        for block in (700, 5000):
            for is_new in (False, True):
                stream = write_adaptive(text, 9, block, 6, window=1000, is_new=is_new, last=5)
                read_text, lasts = read_adaptive(stream, 5000, 9, block, 6, window=1000, is_new=is_new)
                self.assertEqual((read_text, set(lasts)), (text, {5}))


class Tables(unittest.TestCase):
    def test_what_is_asked_first_does_not_count(self):
        for spread in SPREADS[:5]:
            rows = rows_of(spread)
            self.assertEqual(Table(spread).rows(), rows)
            self.assertEqual(Table(spread).row(1), rows[1])
            table = Table(spread)
            symbol = spread[-1]
            expected = table.before(symbol, 1)
            self.assertEqual(table.rows(), rows)
            self.assertEqual(table, Table(spread))
            other = Table(spread)
            other.rows()
            self.assertEqual((other.before(symbol, 1), other.counts()), (expected, table.counts()))


class Desks(unittest.TestCase):
    def state_of(self, desk):
        return desk.tables(), desk.blocks(), desk.last(), desk.costs(), desk.entries(), desk.length(), desk.calls()

    def check_by_writing(self, desk, bits):
        """Costs, entries and stream of a desk by writing each block by itself."""
        tables = dict(desk.tables())
        state = desk.last()
        stream = []
        costs = []
        entries = [state]
        for name, text in desk.blocks()[::-1]:
            told_bits = write(tables[name], text, state)
            width = tables[name].bits()
            state = int("".join(str(bit) for bit in told_bits[:width]), 2)
            stream = told_bits[width:] + stream
            costs.insert(0, len(told_bits) - width)
            entries.insert(0, state)
        self.assertEqual((desk.costs(), desk.entries()), (costs, entries))
        self.assertEqual(desk.length(), sum(costs) + bits)
        self.assertEqual(desk.written(), digits(state, bits) + stream)

    def test_long_blocks(self):
        for seed, bits in enumerate((3, 8, 12)):
            draw = random.Random(seed)
            symbols = list(range(min(30, 2 ** bits)))
            spreads = []
            for _ in range(3):
                spread = symbols + [draw.choice(symbols) for _ in range(2 ** bits - len(symbols))]
                draw.shuffle(spread)
                spreads.append(spread)
            desk = Desk(bits)
            befores = []
            calls = [("table", "a", spreads[0]), ("table", "b", spreads[1])]
            calls += [("block", 0, draw.choice("ab"), drawn_text(at, symbols, 1500)) for at in range(4)]
            calls += [("last", 1), ("cut", 1, 700), ("last", 2 ** bits - 1), ("switch", 2, "b"), ("table", "b", spreads[2])]
            calls += [("cut", 0, 1), ("join", 0), ("drop", 4), ("switch", 1, "a"), ("table", "a", spreads[1]), ("last", 0)]
            calls += [("block", 2, "a", drawn_text(9, symbols, 3000)), ("drop", 0), ("drop", 2), ("table", "c", spreads[0])]
            for call in calls:
                befores.append(self.state_of(desk))
                before = desk.length()
                try:
                    self.assertEqual(desk.do(call), desk.length() - before)
                    self.check_by_writing(desk, bits)
                except InvalidCall:
                    self.assertEqual(self.state_of(desk), befores.pop())
                self.assertEqual(desk, replayed(bits, desk.calls()))
            self.assertGreater(len(befores), 15)
            texts, last, used = desk.read(desk.written() + [1])
            self.assertEqual((texts, last), ([text for _, text in desk.blocks()], desk.last()))
            self.assertEqual(used, desk.length())
            while befores:
                self.assertTrue(desk.undo())
                self.assertEqual(self.state_of(desk), befores.pop())
            self.assertFalse(desk.undo())


if __name__ == "__main__":
    unittest.main()
