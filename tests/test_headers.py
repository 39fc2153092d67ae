"""Points 49 to 52: headers, reading them, packed texts, and escapes."""

import itertools
import random
import unittest

from spreadstates.coding import write
from spreadstates.counts import by_rests, numbers_of
from spreadstates.headers import header_of, pack, read_escaped, read_header, shortest_pack, unpack
from spreadstates.headers import write_escaped
from spreadstates.spreads import spread_by_steps
from spreadstates.tables import Table
from tests.definitions import before_of, digits, drawn_spread, lists_of_bits, log2_down, rows_of, width_of
from tests.definitions import write_by_definition
from tests.samples import SPREAD, bound, drawn_counts, header_error, limit, sample_counts, stream_error, symbol_error
from tests.samples import text_error, told, wrong_counts, wrong_integers, wrong_streams

SMALL = Table(SPREAD)
COUNTS = [(0, 5), (1, 2), (2, 1)]
LONE = Table([0, 0, 0, 9])


def number_bits(number, many):
    """A number of `many` possible ones, by point 49."""
    b = log2_down(many)
    u = 2 ** (b + 1) - many
    return digits(number, b) if number < u else digits(number + u, b + 1)


def header_by_definition(counts):
    """The header, symbol by symbol."""
    left = sum(count for _, count in counts)
    known = dict(counts)
    stream = digits(log2_down(left), 4)
    symbol = 0
    is_behind_groups = False
    while left > 0:
        count = known.get(symbol, 0)
        stream += number_bits(count - 1, left) if is_behind_groups else number_bits(count, left + 1)
        left -= count
        symbol += 1
        is_behind_groups = count == 0
        if count == 0:
            group = 3
            while group == 3:
                group = 0
                while group < 3 and known.get(symbol, 0) == 0:
                    group += 1
                    symbol += 1
                stream += digits(group, 2)
    return stream


def all_counts(bits, symbols):
    """All counts with the sum 2 ** bits for some of so many first symbols."""
    for counts in itertools.product(range(2 ** bits + 1), repeat=symbols):
        if sum(counts) == 2 ** bits:
            yield [(symbol, count) for symbol, count in enumerate(counts) if count > 0]


def great_counts():
    """Counts with gaps of many symbols, and with the symbol 999."""
    found = sample_counts()
    for at in (0, 1, 2, 3, 4, 5, 6, 7, 9, 10, 500, 996, 997, 998, 999):
        found += [[(at, 2)], [(at, 4096)]]
        if at < 999:
            found += [[(at, 1), (999, 1)], [(at, 3), (999, 1)], [(at, 1), (999, 2047)]]
    found.append([(symbol, 1) for symbol in range(1000)][:512])
    found.append([(symbol, 1) for symbol in range(488, 1000)])
    found.append([(symbol, 4) for symbol in range(999)] + [(999, 100)])
    found.append([(0, 1), (998, 1), (999, 2)])
    return found


class Headers(unittest.TestCase):
    def test_examples(self):
        self.assertEqual(header_of(COUNTS), [0, 0, 1, 1, 1, 0, 1, 1, 0, 1])
        self.assertEqual(header_of([(3, 2)]), [0, 0, 0, 1, 0, 1, 0, 1])

    def test_all_small_counts(self):
        seen = []
        for bits, symbols in ((1, 6), (2, 6), (3, 4), (4, 4)):
            for counts in all_counts(bits, symbols):
                header = header_of(counts)
                self.assertEqual(header, header_by_definition(counts))
                self.assertEqual(read_header(header), (counts, len(header)))
                seen.append("".join(map(str, header)))
        seen = sorted(seen)
        self.assertEqual(len(seen), len(set(seen)))
        for one, other in zip(seen, seen[1:]):
            self.assertFalse(other.startswith(one))

    def test_great_counts(self):
        for counts in great_counts():
            header = header_of(counts)
            self.assertEqual(header, header_by_definition(counts))
            self.assertEqual(read_header(header), (counts, len(header)))
            self.assertEqual(read_header([1, 0, 1] + header + [1, 1], 3), (counts, len(header) + 3))
            for many in range(0, len(header), max(1, len(header) // 40)):
                self.assertEqual(told(read_header, header[:many]), header_error(many))
                self.assertEqual(told(read_header, [1] + header[:many], 1), header_error(many + 1))

    def test_each_number_of_bits_less(self):
        for counts in ([(0, 5), (3, 3)], [(2, 1), (3, 1)], [(999, 16)], [(0, 1), (9, 2), (10, 1)], drawn_counts(5, 6, 9)):
            header = header_of(counts)
            for many in range(len(header)):
                self.assertEqual(told(read_header, header[:many]), header_error(many))

    def test_parts_without_bits(self):
        # With 1 left, the count behind a group is 1 and has no bits.
        self.assertEqual(header_of([(0, 1), (2, 1)]), [0, 0, 0, 1] + [1, 0] + [0] + [0, 0])
        self.assertEqual(read_header([0, 0, 0, 1, 1, 0, 0, 0, 0]), ([(0, 1), (2, 1)], 9))

    def test_wrong_counts(self):
        for name, value in wrong_counts().items():
            with self.subTest(name=name):
                self.assertEqual(told(header_of, value), bound("counts"))

    def test_kinds(self):
        found = read_header(header_of(COUNTS))
        self.assertEqual([type(found)] + [type(part) for part in found], [tuple, list, int])
        self.assertEqual([type(part) for part in found[0]], [tuple] * 3)


class ReadingHeaders(unittest.TestCase):
    def test_examples(self):
        self.assertEqual(read_header([1, 0, 0, 0, 1, 0, 1, 0, 1, 1], 1), ([(3, 2)], 9))
        self.assertEqual(told(read_header, [0, 0, 0, 0, 0], 1), header_error(1))

    def test_all_lists_of_bits(self):
        read = 0
        for many in range(15):
            for bits in itertools.product((0, 1), repeat=many):
                stream = list(bits)
                error = told(read_header, stream)
                if error is None:
                    counts, at = read_header(stream)
                    self.assertEqual(header_of(counts), stream[:at])
                    read += 1
                elif many >= 4 and error == header_error(0):
                    self.assertFalse(1 <= int("".join(map(str, bits[:4])), 2) <= 12)
                else:
                    self.assertEqual(error, header_error(many))
        self.assertGreater(read, 500)

    def test_the_four_bits(self):
        for number in range(16):
            for behind in ([], [0], [1] * 60):
                error = told(read_header, [1, 1] + digits(number, 4) + behind, 2)
                if number in (0, 13, 14, 15):
                    self.assertEqual(error, header_error(2))
        for many in range(4):
            self.assertEqual(told(read_header, [0] * many), header_error(many))
            self.assertEqual(told(read_header, [1] * 9 + [0] * many, 9), header_error(9 + many))

    def test_symbols_above_999(self):
        # A header with R = 1, and the count 0 for the symbol 0; then groups.
        front = [0, 0, 0, 1, 0]
        full = [1, 1]
        # 333 full groups lead behind the symbol 0 to the symbol 1000, 332 to 997.
        self.assertEqual(told(read_header, front + full * 333), header_error(5 + 2 * 332))
        self.assertEqual(told(read_header, front + full * 333 + [0, 0, 1, 1]), header_error(5 + 2 * 332))
        self.assertEqual(told(read_header, front + full * 332 + [1]), header_error(5 + 2 * 332 + 1))
        self.assertEqual(read_header(front + full * 332 + [1, 0] + [1]), ([(999, 2)], 5 + 2 * 332 + 3))
        self.assertEqual(read_header(front + full * 332 + [0, 1] + [1]), ([(998, 2)], 5 + 2 * 332 + 3))
        self.assertEqual(read_header(front + full * 332 + [0, 0] + [1]), ([(997, 2)], 5 + 2 * 332 + 3))
        # The symbol 998 has the count 1, and the next one the rest, or none, which leaves too much.
        one = front + full * 332 + [0, 1] + [0]
        self.assertEqual(read_header(one + [1]), ([(998, 1), (999, 1)], len(one) + 1))
        self.assertEqual(told(read_header, one + [0]), header_error(len(one)))
        self.assertEqual(told(read_header, one + [0, 0, 0]), header_error(len(one)))
        self.assertEqual(told(read_header, one), header_error(len(one)))
        # A count of the symbol 999 behind a group that is less than what is left.
        two = front + full * 332 + [1, 0]
        self.assertEqual(told(read_header, two + [0]), header_error(len(two)))
        self.assertEqual(told(read_header, two), header_error(len(two)))
        # The symbol 997 has the count 1 and the symbol 998 none: a group can only be 0.
        three = front + full * 332 + [0, 0] + [0] + [0]
        self.assertEqual(read_header(three + [0, 0]), ([(997, 1), (999, 1)], len(three) + 2))
        for group in ([0, 1], [1, 0], [1, 1]):
            self.assertEqual(told(read_header, three + group), header_error(len(three)))
        self.assertEqual(told(read_header, three + [1]), header_error(len(three) + 1))

    def test_within_a_stream(self):
        header = header_of(COUNTS)
        for ahead in range(9):
            for behind in (0, 1, 5):
                stream = [1, 0] * 9
                stream = stream[:ahead] + header + [0, 1, 1, 0, 1][:behind]
                self.assertEqual(read_header(stream, ahead), (COUNTS, ahead + len(header)))
                self.assertEqual(told(read_header, stream, len(stream)), header_error(len(stream)))
                self.assertEqual(told(read_header, stream, len(stream) + 1), bound("at"))

    def test_errors(self):
        for name, (value, at) in wrong_streams().items():
            with self.subTest(name=name):
                self.assertEqual(told(read_header, value), header_error(at))
                self.assertEqual(told(read_header, value, -1), header_error(at))
        for name, value in wrong_integers(0, 5).items():
            with self.subTest(name=name):
                self.assertEqual(told(read_header, [0] * 5, value), bound("at"))
        self.assertEqual(told(read_header, []), header_error(0))


class Packs(unittest.TestCase):
    def texts(self):
        draw = random.Random(51)
        found = [[5], [0, 0, 1], [999], [0, 999], list(range(16)), [3] * 50]
        for many in (2, 5, 9, 40, 300):
            symbols = [draw.randrange(1000) for _ in range(many)]
            found.append([draw.choice(symbols) for _ in range(2 * many)])
        return found

    def test_examples(self):
        self.assertEqual(pack([0, 0, 1], 1), [0, 0, 0, 1, 1, 0, 1, 0, 0, 1, 0])
        self.assertEqual(shortest_pack([5], 12), (11, 1))

    def test_pack_and_unpack(self):
        for text in self.texts():
            lengths = []
            for bits in range(1, 13):
                if len(set(text)) > 2 ** bits:
                    self.assertEqual(told(pack, text, bits), limit(2 ** bits))
                    self.assertEqual(told(pack, text, bits, 2 ** bits - 1), limit(2 ** bits))
                    self.assertEqual(told(pack, text, bits, 2 ** bits), bound("last"))
                    continue
                counts = by_rests(numbers_of(text), bits)
                table = Table(spread_by_steps(counts))
                for last in (0, 2 ** bits - 1):
                    stream = pack(text, bits, last)
                    self.assertEqual(stream, header_by_definition(counts) + write(table, text, last))
                    self.assertEqual(unpack(stream, len(text)), (text, last))
                    self.assertEqual(told(unpack, stream + [0], len(text)), stream_error(len(stream)))
                    self.assertEqual(told(unpack, stream + [1, 1], len(text)), stream_error(len(stream)))
                self.assertEqual(pack(text, bits), pack(text, bits, 0))
                lengths.append((len(pack(text, bits)), bits))
                for most in (bits, 12):
                    rows = [row for row in lengths if row[1] <= most]
                    if most == bits:
                        self.assertEqual(shortest_pack(text, most), min(rows))
            self.assertEqual(shortest_pack(text, 12), min(lengths))

    def test_streams_that_are_cut_off(self):
        for text, bits in (([0, 0, 1], 1), ([5, 9, 5, 5, 7], 4), ([0, 0, 2], 3)):
            stream = pack(text, bits, 1)
            header = len(header_of(by_rests(numbers_of(text), bits)))
            for many in range(len(stream)):
                expected = header_error(many) if many < header else stream_error(many)
                self.assertEqual(told(unpack, stream[:many], len(text)), expected)

    def test_no_symbols(self):
        header = header_of(COUNTS)
        self.assertEqual(unpack(header + [1, 0, 1], 0), ([], 5))
        self.assertEqual(told(unpack, header + [1, 0, 1, 1], 0), stream_error(len(header) + 3))
        self.assertEqual(told(unpack, header + [1, 0], 0), stream_error(len(header) + 2))

    def test_errors(self):
        self.assertEqual(told(pack, [], 0, -1), text_error(0))
        self.assertEqual(told(pack, [0, 1000], 0, -1), text_error(1))
        self.assertEqual(told(shortest_pack, [], 0), text_error(0))
        for value in wrong_integers(1, 12).values():
            self.assertEqual(told(pack, list(range(1000)), value, -1), bound("bits"))
            self.assertEqual(told(shortest_pack, list(range(1000)), value), bound("most"))
        for value in wrong_integers(0, 3).values():
            self.assertEqual(told(pack, list(range(1000)), 2, value), bound("last"))
        self.assertEqual(told(shortest_pack, [0, 1, 2], 1), limit(2))
        self.assertEqual(told(shortest_pack, list(range(1000)), 9), limit(512))
        self.assertEqual(shortest_pack(list(range(1000)), 10)[1], 10)
        for name, (value, at) in wrong_streams().items():
            with self.subTest(name=name):
                self.assertEqual(told(unpack, value, -1), header_error(at))
        for value in wrong_integers(0, 10000).values():
            self.assertEqual(told(unpack, [0] * 9, value), bound("many"))
        self.assertEqual(told(unpack, [0] * 9, 1), header_error(0))
        self.assertEqual(told(unpack, [1, 1, 0, 1], 1), header_error(0))
        self.assertEqual(told(unpack, [], 1), header_error(0))

    def test_ten_thousand_symbols(self):
        draw = random.Random(10000)
        text = [draw.randrange(900) for _ in range(10000)]
        stream = pack(text, 12, 77)
        self.assertEqual(unpack(stream, 10000), (text, 77))


def escaped_by_definition(spread, text, escape, width, last):
    """The stream with an escape, each symbol written by itself."""
    rows = rows_of(spread)
    state = last
    stream = []
    for symbol in reversed(text):
        is_escaped = symbol == escape or symbol not in spread
        (state, bits, number), = before_of(rows, escape if is_escaped else symbol, state)
        stream = (digits(symbol, width) if is_escaped else []) + digits(number, bits) + stream
    return digits(state, width_of(spread)) + stream


def read_escaped_by_definition(spread, stream, many, escape, width):
    """The tuple (text, last), or the number that InvalidStream tells."""
    width_of_state = width_of(spread)
    if len(stream) < width_of_state:
        return len(stream)
    state = int("".join(map(str, stream[:width_of_state])), 2)
    at = width_of_state
    text = []
    for _ in range(many):
        symbol, bits, base = rows_of(spread)[state]
        if symbol == escape:
            if at + width > len(stream):
                return len(stream)
            symbol = int("".join(map(str, stream[at:at + width])), 2)
            if symbol > 999 or symbol in spread and symbol != escape:
                return at
            at += width
        if at + bits > len(stream):
            return len(stream)
        state = base + (int("".join(map(str, stream[at:at + bits])), 2) if bits else 0)
        at += bits
        text.append(symbol)
    return (text, state) if at == len(stream) else at


class Escapes(unittest.TestCase):
    def test_example(self):
        self.assertEqual(write_escaped(LONE, [0, 5], 9, 3), [0, 0, 1, 1, 0, 1, 0, 0])

    def test_against_the_definition(self):
        for spread in (SPREAD, [0, 0, 0, 9], [3, 1], list(range(16)), [7] * 4, drawn_spread(8, 6, 5), drawn_spread(9, 10, 90)):
            symbols = sorted(set(spread))
            for escape in (symbols[0], symbols[-1]):
                for width in range(1, 11):
                    draw = random.Random(width)
                    known = [symbol for symbol in range(min(1000, 2 ** width)) if symbol not in spread]
                    some = known[:5] + known[-5:] + [symbol for symbol in symbols if symbol != escape]
                    some += [escape] * (escape < 2 ** width)
                    if some:
                        for many in (0, 1, 7, 40):
                            text = [draw.choice(some) for _ in range(many)]
                            last = draw.randrange(len(spread))
                            stream = write_escaped(Table(spread), text, escape, width, last)
                            self.assertEqual(stream, escaped_by_definition(spread, text, escape, width, last))
                            self.assertEqual(read_escaped(Table(spread), stream, many, escape, width), (text, last))
                            found = told(read_escaped, Table(spread), stream + [0], many, escape, width)
                            self.assertEqual(found, stream_error(len(stream)))

    def test_reading_all_lists_of_bits(self):
        for spread, escape, width in (([0, 0, 0, 9], 9, 1), ([0, 0, 0, 9], 0, 2), ([0, 3, 3, 1], 3, 2), ([2, 2], 2, 3), ([0, 1], 1, 1)):
            for stream in lists_of_bits(9):
                for many in (0, 1, 2, 3):
                    expected = read_escaped_by_definition(spread, stream, many, escape, width)
                    if isinstance(expected, int):
                        found = told(read_escaped, Table(spread), stream, many, escape, width)
                        self.assertEqual(found, stream_error(expected))
                    else:
                        self.assertEqual(read_escaped(Table(spread), stream, many, escape, width), expected)

    def test_without_escapes_it_is_as_before(self):
        for text in ([], [0], [0, 1, 1, 0]):
            self.assertEqual(write_escaped(SMALL, text, 2, 4, 5), write_by_definition(SPREAD, text, 5))

    def test_numbers_that_are_wrong(self):
        # State 3 reads the escape 9; the number 0 needs no escape, and 1000 is no symbol.
        self.assertEqual(told(read_escaped, LONE, [1, 1] + digits(0, 4) + [0, 0], 1, 9, 4), stream_error(2))
        self.assertEqual(told(read_escaped, LONE, [1, 1] + digits(0, 4), 1, 9, 4), stream_error(2))
        self.assertEqual(told(read_escaped, LONE, [1, 1] + digits(1000, 10) + [0, 0], 1, 9, 10), stream_error(2))
        self.assertEqual(told(read_escaped, LONE, [1, 1] + digits(1023, 10), 1, 9, 10), stream_error(2))
        self.assertEqual(read_escaped(LONE, [1, 1] + digits(999, 10) + [0, 0], 1, 9, 10), ([999], 0))
        self.assertEqual(read_escaped(LONE, [1, 1] + digits(9, 4) + [0, 1], 1, 9, 4), ([9], 1))
        self.assertEqual(told(read_escaped, LONE, [1, 1] + digits(5, 4)[:3], 1, 9, 4), stream_error(5))
        self.assertEqual(told(read_escaped, LONE, [1, 1] + digits(5, 4) + [1], 1, 9, 4), stream_error(7))
        self.assertEqual(told(read_escaped, LONE, [1], 0, 9, 4), stream_error(1))

    def test_symbols_with_more_bits(self):
        for width in range(1, 10):
            self.assertEqual(told(write_escaped, LONE, [0, 2 ** width, 999], 9, width),
                             symbol_error(2 ** width) if 2 ** width < 1000 else None)
            self.assertIsNone(told(write_escaped, LONE, [0, 2 ** width - 1], 9, width))
        # The escape itself has four bits.
        self.assertEqual(told(write_escaped, LONE, [0, 7, 9, 8], 9, 3), symbol_error(9))
        self.assertIsNone(told(write_escaped, LONE, [0, 7, 9, 8], 9, 4))
        self.assertIsNone(told(write_escaped, LONE, [0, 999], 9, 10))
        # A symbol of the table needs no escape, however many bits it has.
        self.assertIsNone(told(write_escaped, Table([0, 999]), [999, 0], 0, 1))
        self.assertEqual(told(write_escaped, Table([0, 999]), [999, 0], 999, 9), symbol_error(999))

    def test_errors_in_their_order(self):
        self.assertEqual(told(write_escaped, None, None, None, 0, -1), bound("table"))
        self.assertEqual(told(write_escaped, LONE, [0, -1], None, 0, -1), text_error(1))
        for escape in (1, -1, 1000, None, True, False, "9", [9], 10 ** 40):
            self.assertEqual(told(write_escaped, LONE, [0, 500], escape, 0, -1), bound("escape"))
            self.assertEqual(told(read_escaped, LONE, [1, 1, 1], 9, escape, 0), bound("escape"))
        for value in wrong_integers(1, 10).values():
            self.assertEqual(told(write_escaped, LONE, [0, 500], 9, value, -1), bound("width"))
            self.assertEqual(told(read_escaped, LONE, [1, 1, 1], 9, 9, value), bound("width"))
        for value in wrong_integers(0, 3).values():
            self.assertEqual(told(write_escaped, LONE, [0, 500], 9, 3, value), bound("last"))
        self.assertEqual(told(write_escaped, LONE, [0, 500, 600], 9, 3, 3), symbol_error(500))
        self.assertEqual(told(read_escaped, None, None, -1, -1, 0), bound("table"))
        self.assertEqual(told(read_escaped, LONE, [0, 2], -1, -1, 0), stream_error(1))
        for value in wrong_integers(0, 10000).values():
            self.assertEqual(told(read_escaped, LONE, [0], value, -1, 0), bound("many"))

    def test_kinds(self):
        found = read_escaped(LONE, [0, 0, 1, 1, 0, 1, 0, 0], 2, 9, 3)
        self.assertEqual(found, ([0, 5], 0))
        self.assertEqual([type(found)] + [type(part) for part in found], [tuple, list, int])


if __name__ == "__main__":
    unittest.main()
