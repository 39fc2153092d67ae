"""Points 45 to 48: several states and several tables in turns, and tables by the symbol ahead."""

import itertools
import random
import unittest

from spreadstates.coding import write
from spreadstates.counts import by_rests, numbers_of
from spreadstates.spreads import spread_by_steps
from spreadstates.tables import Table
from spreadstates.weaving import read_after, read_woven, tables_after, unwoven, woven, write_after, write_woven
from tests.definitions import before_of, digits, drawn_spread, great_spreads, rows_of, width_of, write_by_definition
from tests.samples import SPREAD, bound, limit, no_tables, stream_error, symbol_error, text_error, told
from tests.samples import wrong_integers, wrong_items, wrong_lists, wrong_streams

SMALL = Table(SPREAD)
HALF = Table([0, 0, 0, 0, 1, 1, 1, 1])
STREAM = [0, 0, 0, 1, 1, 1, 1, 0, 0, 0]
# Spreads of one size, with the same symbols and with other ones.
ROWS = (
    [SPREAD], [[0, 1], [1, 0]], [[0, 1, 1, 1], [0, 0, 0, 1], [1, 0, 0, 1]], [SPREAD, [0, 1, 2, 0, 1, 2, 0, 1]],
    [[7] * 4], [[7] * 4, [7, 7, 7, 8]], [[0] * 8, [1] * 8, SPREAD], [list(range(16)), [0] * 15 + [3]],
    [[0, 1, 1, 2], [0, 1, 2, 3], [3, 3, 1, 0], [0, 0, 0, 0], [0, 1, 0, 1], [1, 1, 1, 0], [2, 0, 0, 0], [0, 0, 1, 2]],
)


def turn_text(spreads, seed, many):
    """A text of which each symbol is one of the spread whose turn it is."""
    draw = random.Random(seed)
    return [draw.choice(spreads[at % len(spreads)]) for at in range(many)]


def woven_by_definition(spreads, states, text, lasts):
    """The woven stream, each symbol written by itself."""
    fronts = list(lasts)
    stream = []
    for at in range(len(text) - 1, -1, -1):
        rows = rows_of(spreads[at % len(spreads)])
        (place, bits, number), = before_of(rows, text[at], fronts[at % states])
        fronts[at % states] = place
        stream = digits(number, bits) + stream
    for state in reversed(fronts):
        stream = digits(state, width_of(spreads[0])) + stream
    return stream


def read_woven_by_definition(spreads, states, stream, many):
    """The tuple (text, lasts, used), or None if there are too few bits."""
    rest = "".join(str(bit) for bit in stream)
    width = width_of(spreads[0])
    if len(rest) < states * width:
        return None
    fronts = [int(rest[turn * width:turn * width + width], 2) for turn in range(states)]
    rest = rest[states * width:]
    text = []
    for at in range(many):
        symbol, bits, base = rows_of(spreads[at % len(spreads)])[fronts[at % states]]
        if bits > len(rest):
            return None
        fronts[at % states] = base + (int(rest[:bits], 2) if bits else 0)
        rest = rest[bits:]
        text.append(symbol)
    return text, fronts, len(stream) - len(rest)


def after_by_definition(first, spreads, text, last):
    """The stream by the tables of the symbols ahead."""
    state = last
    stream = []
    for at in range(len(text) - 1, -1, -1):
        spread = first if at == 0 else spreads.get(text[at - 1], first)
        (state, bits, number), = before_of(rows_of(spread), text[at], state)
        stream = digits(number, bits) + stream
    return digits(state, width_of(first)) + stream


class Woven(unittest.TestCase):
    def test_examples(self):
        self.assertEqual(write_woven([SMALL], 2, [0, 2, 0]), STREAM)
        self.assertEqual(unwoven(SMALL, 2, STREAM, 3), [[0, 0, 0, 1], [1, 1, 1, 0, 0, 0]])

    def test_against_the_definition(self):
        for spreads in ROWS:
            tables = [Table(spread) for spread in spreads]
            size = len(spreads[0])
            for states in range(1, 9):
                for many in (0, 1, 2, 3, 7, 8, 9, 20):
                    text = turn_text(spreads, 10 * states + many, many)
                    lasts = [random.Random(states + many + at).randrange(size) for at in range(states)]
                    stream = write_woven(tables, states, text, lasts)
                    self.assertEqual(stream, woven_by_definition(spreads, states, text, lasts))
                    self.assertEqual(read_woven(tables, states, stream, many), (text, lasts, len(stream)))
                    plain = woven_by_definition(spreads, states, text, [0] * states)
                    self.assertEqual(write_woven(tables, states, text), plain)
                    self.assertEqual(write_woven(tables, states, text, None), plain)

    def test_reading_all_lists_of_bits(self):
        for spreads in (ROWS[1], ROWS[2], [[0, 1, 0, 0]]):
            tables = [Table(spread) for spread in spreads]
            for many_bits in range(10):
                for bits in itertools.product((0, 1), repeat=many_bits):
                    for states, many in ((1, 3), (2, 3), (3, 2)):
                        expected = read_woven_by_definition(spreads, states, list(bits), many)
                        if expected is None:
                            found = told(read_woven, tables, states, list(bits), many)
                            self.assertEqual(found, stream_error(len(bits)))
                        else:
                            self.assertEqual(read_woven(tables, states, list(bits), many), expected)

    def test_one_state_and_one_table_are_as_without(self):
        for spread in great_spreads()[::5]:
            text = turn_text([spread], 3, 25)
            for last in (0, len(spread) - 1):
                self.assertEqual(write_woven([Table(spread)], 1, text, [last]), write(Table(spread), text, last))

    def test_fewer_symbols_than_states(self):
        self.assertEqual(write_woven([SMALL], 4, [], [1, 2, 3, 4]), [0, 0, 1, 0, 1, 0, 0, 1, 1, 1, 0, 0])
        stream = write_woven([SMALL], 4, [2], [1, 2, 3, 4])
        self.assertEqual(stream, [1, 1, 1, 0, 1, 0, 0, 1, 1, 1, 0, 0, 0, 0, 1])
        self.assertEqual(read_woven([SMALL], 4, stream + [1], 1), ([2], [1, 2, 3, 4], 15))
        self.assertEqual(unwoven(SMALL, 4, stream, 1), [[1, 1, 1, 0, 0, 1], [0, 1, 0], [0, 1, 1], [1, 0, 0]])

    def test_great_tables_and_long_texts(self):
        spreads = [drawn_spread(seed, 12, 9) for seed in (1, 2, 3)]
        tables = [Table(spread) for spread in spreads]
        text = turn_text(spreads, 4, 10000)
        stream = write_woven(tables, 8, text)
        self.assertEqual(read_woven(tables, 8, stream + [0] * 9, 10000), (text, [0] * 8, len(stream)))
        for less in (1, len(stream) // 2, len(stream) - 96, len(stream) - 95, len(stream)):
            cut = stream[:len(stream) - less]
            self.assertEqual(told(read_woven, tables, 8, cut, 10000), stream_error(len(cut)))

    def test_each_is_the_other_one_turned_about(self):
        for spread in (SPREAD, [0, 1], [7] * 4, [0] * 15 + [1], list(range(16)), drawn_spread(4, 7, 5)):
            table = Table(spread)
            for states in range(1, 9):
                for many in (0, 1, 5, 8, 17):
                    text = turn_text([spread], states + many, many)
                    lasts = [at % len(spread) for at in range(states)]
                    stream = write_woven([table], states, text, lasts)
                    streams = unwoven(table, states, stream + [1, 0, 1], many)
                    for turn in range(states):
                        self.assertEqual(streams[turn], write_by_definition(spread, text[turn::states], lasts[turn]))
                    self.assertEqual(woven(table, streams, many), stream)

    def test_streams_that_are_not_right(self):
        streams = [write(SMALL, [0, 2], 1), write(SMALL, [1, 1], 2), write(SMALL, [0], 0)]
        self.assertEqual(len(woven(SMALL, streams, 5)), sum(len(stream) for stream in streams))
        for turn in range(3):
            for wrong in (streams[turn] + [0], streams[turn] + [1, 1], [], [0, 0], streams[turn][:-1]):
                if wrong != streams[turn]:
                    found = streams[:turn] + [wrong] + streams[turn + 1:]
                    self.assertEqual(told(woven, SMALL, found, 5), stream_error(turn))
                    found = streams[:turn] + [wrong] * (3 - turn)
                    self.assertEqual(told(woven, SMALL, found, 5), stream_error(turn))
        self.assertEqual(told(woven, SMALL, streams, 4), stream_error(1))
        self.assertEqual(told(woven, SMALL, streams, 6), stream_error(2))
        self.assertEqual(told(woven, SMALL, [[0, 0]], 0), stream_error(0))

    def test_results_are_new(self):
        streams = [[0, 1, 0]]
        found = woven(SMALL, streams, 0)
        self.assertEqual(found, [0, 1, 0])
        self.assertIsNot(found, streams[0])
        lasts = [3, 4]
        stream = write_woven([SMALL], 2, [], lasts)
        found = read_woven([SMALL], 2, stream, 0)[1]
        self.assertEqual(found, lasts)
        found.append(1)
        write_woven([SMALL], 2, [0, 1, 2], lasts)
        self.assertEqual(lasts, [3, 4])

    def test_errors_of_writing(self):
        self.assertEqual(told(write_woven, [], 0, None, 0), bound("tables"))
        self.assertEqual(told(write_woven, [SMALL], 0, None, 0), bound("states"))
        self.assertEqual(told(write_woven, [SMALL], 1, [0, 3, -1], 0), text_error(2))
        self.assertEqual(told(write_woven, [SMALL], 1, [0, 3, 4], 0), symbol_error(3))
        self.assertEqual(told(write_woven, [SMALL, HALF], 1, [2, 0, 2, 2], 0), symbol_error(2))
        self.assertEqual(told(write_woven, [HALF, SMALL], 1, [0, 2, 5, 2], 0), symbol_error(5))
        for lasts in ([], [0], [0, 0, 0], [0, 8], [-1, 0], [0, True], [0, None], (0, 0), 0, "00", {0: 0, 1: 1}, [[0], 0]):
            self.assertEqual(told(write_woven, [SMALL], 2, [0], lasts), bound("lasts"))
        for value in wrong_items().values():
            if value is not None:
                if value != [0, 2]:
                    self.assertEqual(told(write_woven, [SMALL], 2, [0], value), bound("lasts"))
                self.assertEqual(told(write_woven, [SMALL], 2, [0], [0, value]), bound("lasts"))

    def test_what_are_no_tables(self):
        other = Table([0, 1])
        wrong = [[SMALL, other], [SMALL, None], [SMALL] * 9, (SMALL,), SMALL, {0: SMALL}, [[SMALL]], [Table], [SMALL] * 100000]
        for value in wrong + list(wrong_lists().values()):
            if not (isinstance(value, list) and value and all(isinstance(item, Table) for item in value[:1]) and len(value) == 1):
                self.assertEqual(told(write_woven, value, 0, None, 0), bound("tables"))
                self.assertEqual(told(read_woven, value, 0, None, -1), bound("tables"))
        self.assertIsNone(told(write_woven, [SMALL] * 8, 8, [0] * 20))

    def test_errors_of_reading(self):
        for action, front in ((read_woven, [SMALL]), (unwoven, SMALL)):
            for name, value in wrong_integers(1, 8).items():
                with self.subTest(name=name):
                    self.assertEqual(told(action, front, value, None, -1), bound("states"))
                    self.assertEqual(told(action, front, value, STREAM, 2), bound("states"))
            for name, (value, at) in wrong_streams().items():
                with self.subTest(name=name):
                    self.assertEqual(told(action, front, 2, value, -1), stream_error(at))
            for name, value in wrong_integers(0, 10000).items():
                with self.subTest(name=name):
                    self.assertEqual(told(action, front, 2, [0], value), bound("many"))
            self.assertEqual(told(action, front, 2, STREAM, 5), stream_error(10))
            self.assertEqual(told(action, front, 4, STREAM, 0), stream_error(10))
        for name, value in no_tables().items():
            with self.subTest(name=name):
                self.assertEqual(told(unwoven, value, 0, None, -1), bound("table"))
                self.assertEqual(told(woven, value, None, -1), bound("table"))

    def test_what_are_no_streams(self):
        wrong = [[], [[0, 0, 0]] * 9, [[0, 0, 0], [2]], [[0, 0, 0], (0, 0, 0)], ([0, 0, 0],), [0, 0, 0], [None], [[True]], {}, None]
        wrong += [value for name, value in wrong_lists().items() if name not in ("list of empty list", "list of list")]
        for value in wrong:
            self.assertEqual(told(woven, SMALL, value, -1), bound("streams"))
            self.assertEqual(told(woven, SMALL, value, 0), bound("streams"))
        for name, value in wrong_integers(0, 10000).items():
            with self.subTest(name=name):
                self.assertEqual(told(woven, SMALL, [[]], value), bound("many"))
        self.assertEqual(woven(SMALL, [[0, 0, 0]] * 8, 0), [0] * 24)


class After(unittest.TestCase):
    def test_examples(self):
        self.assertEqual(write_after(SMALL, [(0, HALF)], [0, 1]), [0, 0, 1, 0, 0])
        self.assertEqual(read_after(SMALL, [(0, HALF)], [0, 0, 1, 0, 0], 2), ([0, 1], 0, 5))
        expected = (Table([0, 0, 1, 2]), [(0, Table([1, 1, 2, 2])), (1, Table([0, 0, 0, 0]))])
        self.assertEqual(tables_after([0, 1, 0, 2], 2), expected)

    def test_against_the_definition(self):
        for first, spreads in (
            (SPREAD, {}), (SPREAD, {0: [0, 0, 0, 0, 1, 1, 1, 1]}), ([0, 1], {0: [1, 1], 1: [0, 0]}),
            ([0, 1, 2, 3], {0: [1, 1, 2, 3], 2: [0, 0, 0, 3], 3: [0, 1, 2, 2]}), ([5] * 4, {5: [5, 5, 6, 5], 6: [6] * 4}),
            (list(range(16)), {at: drawn_spread(at, 4, 4) for at in range(0, 16, 3)}), ([0, 1], {500: [0, 1]}),
        ):
            tables = [(symbol, Table(spreads[symbol])) for symbol in sorted(spreads)]
            for seed in range(20):
                draw = random.Random(seed)
                text = []
                for _ in range(draw.randrange(30)):
                    spread = spreads.get(text[-1], first) if text else first
                    text.append(draw.choice(spread))
                for last in (0, len(first) - 1):
                    stream = write_after(Table(first), tables, text, last)
                    self.assertEqual(stream, after_by_definition(first, spreads, text, last))
                    found = read_after(Table(first), tables, stream + [1], len(text))
                    self.assertEqual(found, (text, last, len(stream)))
                    if text:
                        self.assertEqual(told(read_after, Table(first), tables, stream[:-1], len(text)),
                                         stream_error(len(stream) - 1))

    def test_without_tables_it_is_as_before(self):
        for text in ([], [0], [0, 1, 2, 2, 0, 0]):
            self.assertEqual(write_after(SMALL, [], text, 3), write(SMALL, text, 3))
            self.assertEqual(write_after(SMALL, [], text), write(SMALL, text))

    def test_symbols_that_the_tables_have_not(self):
        tables = [(0, HALF)]
        self.assertEqual(told(write_after, SMALL, tables, [0, 2], -1), symbol_error(2))
        self.assertEqual(told(write_after, SMALL, tables, [2, 0, 2, 9], -1), symbol_error(2))
        self.assertEqual(told(write_after, SMALL, tables, [2, 2, 9, 2], -1), symbol_error(9))
        self.assertEqual(told(write_after, SMALL, tables, [2, 0, 1], 8), bound("last"))

    def test_what_are_no_tables(self):
        wrong = [((0, HALF),), [(0, Table([0, 1]))], [(0, HALF), (0, HALF)], [(1, HALF), (0, HALF)], [[0, HALF]], [(0, HALF, 1)]]
        wrong += [[(1000, HALF)], [(-1, HALF)], [(True, HALF)], [HALF], {0: HALF}, [(HALF, 0)], [(0, [0, 1])], [()]]
        wrong += [[(0, HALF), (1, None)], [(0, HALF), None], [("0", HALF)], [(0, Table)]]
        wrong += [value for name, value in wrong_lists().items() if name != "empty list"]
        wrong += [[(value, HALF)] for value in wrong_items().values()]
        wrong += [[(0, value)] for name, value in wrong_items().items()]
        for value in wrong:
            self.assertEqual(told(write_after, SMALL, value, None, -1), bound("tables"))
            self.assertEqual(told(read_after, SMALL, value, None, -1), bound("tables"))
        for value in no_tables().values():
            self.assertEqual(told(write_after, value, None, None, -1), bound("first"))
            self.assertEqual(told(read_after, value, None, None, -1), bound("first"))

    def test_errors_of_reading(self):
        tables = [(0, HALF)]
        for value, at in wrong_streams().values():
            self.assertEqual(told(read_after, SMALL, tables, value, -1), stream_error(at))
        for value in wrong_integers(0, 10000).values():
            self.assertEqual(told(read_after, SMALL, tables, [], value), bound("many"))
        for many in range(4):
            self.assertEqual(told(read_after, SMALL, tables, [0] * many, 9), stream_error(many))
        self.assertEqual(read_after(SMALL, tables, [1, 0, 1], 0), ([], 5, 3))

    def test_tables_of_texts(self):
        for seed in range(80):
            draw = random.Random(seed)
            text = [draw.randrange(1 + seed % 9) for _ in range(1 + draw.randrange(40))]
            bits = 4 + seed % 3
            first, tables = tables_after(text, bits)
            self.assertEqual(first.spread(), spread_by_steps(by_rests(numbers_of(text), bits)))
            self.assertEqual([symbol for symbol, _ in tables], sorted(set(text[:-1])))
            for symbol, table in tables:
                behind = [text[at + 1] for at in range(len(text) - 1) if text[at] == symbol]
                self.assertEqual(table.spread(), spread_by_steps(by_rests(numbers_of(behind), bits)))
            for last in (0, 3, 15):
                stream = write_after(first, tables, text, last)
                self.assertEqual(read_after(first, tables, stream, len(text)), (text, last, len(stream)))

    def test_where_there_is_always_the_same_symbol_behind(self):
        for text in ([0, 1, 2, 3] * 9, [5] * 30, [1, 2] * 3 + [1], [7, 8]):
            first, tables = tables_after(text, 5)
            for last in (0, 9, 31):
                stream = write_after(first, tables, text, last)
                self.assertEqual(len(stream) - 5, len(write(first, text[:1], last)) - 5)

    def test_one_symbol_alone(self):
        self.assertEqual(tables_after([4], 1), (Table([4, 4]), []))

    def test_errors_of_tables(self):
        self.assertEqual(told(tables_after, [], 0), text_error(0))
        self.assertEqual(told(tables_after, None, 0), text_error(-1))
        self.assertEqual(told(tables_after, [0, True], 0), text_error(1))
        for value in wrong_integers(1, 12).values():
            self.assertEqual(told(tables_after, [0, 1, 2], value), bound("bits"))
        self.assertEqual(told(tables_after, [0, 1, 2], 1), limit(2))
        self.assertEqual(told(tables_after, list(range(1000)), 9), limit(512))
        self.assertIsNone(told(tables_after, list(range(1000)), 10))


if __name__ == "__main__":
    unittest.main()
