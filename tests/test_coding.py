"""Points 16 to 20: writing, reading, cutting and joining streams, and what fast programs write with."""

import random
import unittest

from spreadstates.coding import cut, deltas, joined, read, read_whole, steps, write
from spreadstates.tables import Table
from tests.definitions import digits, great_spreads, lists_of_bits, log2_down, read_by_definition
from tests.definitions import small_spreads, streams_of, texts_of, write_by_definition
from tests.samples import SPREAD, bound, stream_error, symbol_error, text_error, told
from tests.samples import no_tables, wrong_integers, wrong_items, wrong_lists, wrong_streams, wrong_texts

SMALL = Table(SPREAD)
STREAM = [0, 1, 0, 1, 0, 0, 0]


def drawn_text(seed, spread, many):
    draw = random.Random(seed)
    return [draw.choice(spread) for _ in range(many)]


def small_cases(most=3):
    """The tuples (spread, text, last, stream) of all texts of small spreads."""
    for spread in small_spreads():
        many = most if len(spread) * len(set(spread)) ** most < 3000 else 2
        for length in range(many + 1):
            for stream, text, last in streams_of(spread, length):
                yield spread, text, last, stream


class Writing(unittest.TestCase):
    def test_example(self):
        self.assertEqual(write(SMALL, [0, 2]), STREAM)

    def test_all_texts_of_small_tables(self):
        for spread, text, last, stream in small_cases():
            self.assertEqual(write(Table(spread), text, last), stream)

    def test_by_definition(self):
        for spread in small_spreads():
            for seed in range(4):
                text = drawn_text(seed, spread, 20 + seed)
                last = seed % len(spread)
                self.assertEqual(write(Table(spread), text, last), write_by_definition(spread, text, last))

    def test_empty_text(self):
        for spread in small_spreads() + great_spreads():
            table = Table(spread)
            size = len(spread)
            for last in {0, 1, size // 2, size - 1}:
                self.assertEqual(write(table, [], last), digits(last, table.bits()))
            self.assertEqual(write(table, []), [0] * table.bits())

    def test_last_is_0_if_it_is_not_told(self):
        for spread in small_spreads():
            text = drawn_text(3, spread, 9)
            self.assertEqual(write(Table(spread), text), write(Table(spread), text, 0))

    def test_one_symbol(self):
        for bits in range(1, 13):
            for last in {0, 2 ** bits - 1}:
                self.assertEqual(write(Table([4] * 2 ** bits), [4] * 10000, last), digits(last, bits))

    def test_kinds_of_the_result(self):
        stream = write(SMALL, [0, 1, 2, 1], 5)
        self.assertIs(type(stream), list)
        self.assertEqual({type(bit) for bit in stream}, {int})

    def test_the_table_is_the_first_argument(self):
        for name, value in no_tables().items():
            with self.subTest(name=name):
                self.assertEqual(told(write, value, [0, 2], 0), bound("table"))
                self.assertEqual(told(write, value, None, None), bound("table"))

    def test_what_is_no_text(self):
        for name, (value, at) in wrong_texts().items():
            with self.subTest(name=name):
                self.assertEqual(told(write, SMALL, value), text_error(at))
                self.assertEqual(told(write, SMALL, value, -1), text_error(at))
        self.assertEqual(told(write, SMALL, [3, None]), text_error(1))
        self.assertEqual(told(write, SMALL, [5] * 10001), text_error(10000))

    def test_symbols_that_the_table_has_not(self):
        self.assertEqual(told(write, SMALL, [3]), symbol_error(3))
        self.assertEqual(told(write, SMALL, [0, 1, 999, 5]), symbol_error(999))
        self.assertEqual(told(write, SMALL, [0] * 9998 + [7, 6], 8), symbol_error(7))
        self.assertEqual(told(write, SMALL, [4, 3], None), symbol_error(4))
        self.assertEqual(told(write, Table([1, 3, 1, 3]), [1, 3, 2]), symbol_error(2))

    def test_what_is_no_last_state(self):
        for name, value in wrong_integers(0, 7).items():
            with self.subTest(name=name):
                self.assertEqual(told(write, SMALL, [0, 2], value), bound("last"))
                self.assertEqual(told(write, SMALL, [], last=value), bound("last"))


class Reading(unittest.TestCase):
    def test_examples(self):
        self.assertEqual(read(SMALL, STREAM + [1], 2), ([0, 2], 0, 7))
        self.assertEqual(steps(SMALL, STREAM + [1], 2), [(2, 0, 1, 1), (7, 2, 3, 0)])

    def test_all_texts_of_small_tables(self):
        for spread, text, last, stream in small_cases():
            table = Table(spread)
            many = len(text)
            self.assertEqual(read(table, stream, many), (text, last, len(stream)))
            self.assertEqual(read(table, stream + [1, 0, 0], many), (text, last, len(stream)))
            self.assertEqual(read(table, stream + [0], many), (text, last, len(stream)))

    def test_all_lists_of_bits(self):
        for spread in small_spreads():
            table = Table(spread)
            for stream in lists_of_bits(7 if len(spread) < 8 else 6):
                for many in (0, 1, 2, 3, 5):
                    expected = read_by_definition(spread, stream, many)
                    if expected is None:
                        self.assertEqual(told(read, table, stream, many), stream_error(len(stream)))
                        self.assertEqual(told(steps, table, stream, many), stream_error(len(stream)))
                        self.assertEqual(told(cut, table, stream, many), stream_error(len(stream)))
                    else:
                        self.assertEqual(read(table, stream, many), expected[:3])
                        self.assertEqual(steps(table, stream, many), expected[3])

    def test_turned_about(self):
        for spread in great_spreads():
            table = Table(spread)
            for seed, many in ((1, 1), (2, 60), (3, 300)):
                text = drawn_text(seed, spread, many)
                last = random.Random(seed).randrange(len(spread))
                stream = write(table, text, last)
                self.assertEqual(read(table, stream, many), (text, last, len(stream)))
                self.assertEqual(read(table, stream + [0, 1] * 9, many), (text, last, len(stream)))
                self.assertEqual(read_whole(table, stream, many, last), text)

    def test_ten_thousand_symbols(self):
        for spread in (SPREAD, [0, 1], [0] * 63 + [1], great_spreads()[-1], great_spreads()[-4], [3] * 8):
            table = Table(spread)
            text = drawn_text(4, spread, 10000)
            stream = write(table, text, 1)
            self.assertEqual(read(table, stream, 10000), (text, 1, len(stream)))
            self.assertEqual(read_whole(table, stream, 10000, 1), text)
            passed = steps(table, stream, 10000)
            self.assertEqual([step[1] for step in passed], text)
            self.assertEqual(table.bits() + sum(step[2] for step in passed), len(stream))

    def test_steps_lead_from_state_to_state(self):
        for spread in great_spreads()[::5]:
            table = Table(spread)
            stream = write(table, drawn_text(5, spread, 50), 1)
            passed = steps(table, stream, 50)
            states = [table.row(state)[2] + number for state, _, _, number in passed]
            self.assertEqual([step[0] for step in passed[1:]] + [1], states)
            self.assertEqual([(symbol, bits) for _, symbol, bits, _ in passed],
                             [table.row(step[0])[:2] for step in passed])
            made = [bit for _, _, bits, number in passed for bit in digits(number, bits)]
            self.assertEqual(digits(passed[0][0], table.bits()) + made, stream)

    def test_no_symbols(self):
        self.assertEqual(read(SMALL, [1, 0, 1], 0), ([], 5, 3))
        self.assertEqual(read(SMALL, [1, 0, 1, 1, 1], 0), ([], 5, 3))
        self.assertEqual(steps(SMALL, [1, 0, 1, 1, 1], 0), [])
        for many in range(3):
            self.assertEqual(told(read, SMALL, [1] * many, 0), stream_error(many))

    def test_one_symbol(self):
        table = Table([9] * 16)
        self.assertEqual(read(table, [0, 1, 1, 0], 10000), ([9] * 10000, 6, 4))
        self.assertEqual(steps(table, [0, 1, 1, 0, 1], 3), [(6, 9, 0, 0)] * 3)
        self.assertEqual(told(read, table, [0, 1, 1], 10000), stream_error(3))

    def test_kinds_of_the_results(self):
        text, last, used = read(SMALL, STREAM, 2)
        self.assertEqual([type(value) for value in (text, last, used)], [list, int, int])
        self.assertIs(type(read(SMALL, STREAM, 2)), tuple)
        found = steps(SMALL, STREAM, 2)
        self.assertIs(type(found), list)
        self.assertEqual([type(step) for step in found], [tuple, tuple])
        self.assertEqual({type(part) for step in found for part in step}, {int})


class ReadingWhole(unittest.TestCase):
    def test_turned_about(self):
        for spread, text, last, stream in small_cases(2):
            table = Table(spread)
            self.assertEqual(read_whole(table, stream, len(text)), text)
            self.assertEqual(read_whole(table, stream, len(text), None), text)
            self.assertEqual(read_whole(table, stream, len(text), last), text)

    def test_each_stream_that_is_used_up_is_that_of_what_it_tells(self):
        for spread in small_spreads():
            table = Table(spread)
            for stream in lists_of_bits(6):
                for many in (0, 1, 2, 4):
                    expected = read_by_definition(spread, stream, many)
                    if expected is None:
                        self.assertEqual(told(read_whole, table, stream, many), stream_error(len(stream)))
                    elif expected[2] < len(stream):
                        self.assertEqual(told(read_whole, table, stream, many), stream_error(expected[2]))
                    else:
                        self.assertEqual(write(table, expected[0], expected[1]), stream)
                        self.assertEqual(read_whole(table, stream, many), expected[0])

    def test_sessions(self):
        self.assertEqual(told(read_whole, SMALL, STREAM + [1], 2), stream_error(7))
        self.assertEqual(told(read_whole, SMALL, STREAM, 2, 1), bound("last"))

    def test_another_end(self):
        for spread, text, last, stream in small_cases(2):
            if len(spread) < 16:
                for other in range(len(spread)):
                    expected = None if other == last else bound("last")
                    self.assertEqual(told(read_whole, Table(spread), stream, len(text), other), expected)

    def test_errors_in_their_order(self):
        # A last state that is none comes ahead of too few bits, and of bits that are left.
        for name, value in wrong_integers(0, 7).items():
            if value is not None:
                with self.subTest(name=name):
                    self.assertEqual(told(read_whole, SMALL, STREAM, 2, value), bound("last"))
                    self.assertEqual(told(read_whole, SMALL, [], 2, value), bound("last"))
                    self.assertEqual(told(read_whole, SMALL, STREAM + [1], 2, last=value), bound("last"))
                    self.assertEqual(told(read_whole, SMALL, STREAM, -1, value), bound("many"))
        # Too few bits and bits that are left come ahead of another end.
        self.assertEqual(told(read_whole, SMALL, STREAM[:6], 2, 1), stream_error(6))
        self.assertEqual(told(read_whole, SMALL, [0, 1], 2, 1), stream_error(2))
        self.assertEqual(told(read_whole, SMALL, STREAM + [0], 2, 1), stream_error(7))
        self.assertEqual(told(read_whole, SMALL, STREAM + [0, 1, 1], 2, 0), stream_error(7))
        self.assertEqual(told(read_whole, SMALL, STREAM, 0, 0), stream_error(3))


class Cutting(unittest.TestCase):
    def test_example(self):
        self.assertEqual(cut(SMALL, STREAM, 1), ([0, 1, 0, 1], [1, 1, 1, 0, 0, 0]))

    def test_cut_anywhere_and_joined(self):
        for spread in small_spreads():
            table = Table(spread)
            text = drawn_text(6, spread, 12)
            last = random.Random(7).randrange(len(spread))
            stream = write(table, text, last)
            for many in range(13):
                first, second = cut(table, stream, many)
                self.assertEqual(read_whole(table, first, many), text[:many])
                self.assertEqual(read_whole(table, second, 12 - many, last), text[many:])
                self.assertEqual(second, write(table, text[many:], last))
                self.assertEqual(joined(table, first, many, second), stream)

    def test_joined_and_cut(self):
        for spread in small_spreads():
            table = Table(spread)
            for seed in range(5):
                behind = write(table, drawn_text(seed, spread, seed), seed % len(spread))
                state = read(table, behind, 0)[1]
                ahead = write(table, drawn_text(seed + 9, spread, 4), state)
                whole = joined(table, ahead, 4, behind)
                self.assertEqual(whole, ahead + behind[table.bits():])
                self.assertEqual(cut(table, whole, 4), (ahead, behind))

    def test_bits_that_follow(self):
        self.assertEqual(cut(SMALL, STREAM + [1, 1, 0], 2), (STREAM, [0, 0, 0, 1, 1, 0]))
        self.assertEqual(cut(SMALL, [1, 1, 0, 1], 0), ([1, 1, 0], [1, 1, 0, 1]))
        # The second stream may have any bits behind its first state.
        self.assertEqual(joined(SMALL, STREAM, 2, [0, 0, 0, 1, 1, 0]), STREAM + [1, 1, 0])
        self.assertEqual(joined(SMALL, [1, 1, 0], 0, [1, 1, 0]), [1, 1, 0])

    def test_results_are_new(self):
        first, second = [1, 1, 0], [1, 1, 0]
        whole = joined(SMALL, first, 0, second)
        whole.append(1)
        self.assertEqual((first, second), ([1, 1, 0], [1, 1, 0]))
        stream = list(STREAM)
        ahead, behind = cut(SMALL, stream, 2)
        ahead.append(1)
        behind.append(1)
        self.assertEqual(stream, STREAM)

    def test_kinds_of_the_results(self):
        found = cut(SMALL, STREAM, 1)
        self.assertEqual([type(found)] + [type(part) for part in found], [tuple, list, list])
        self.assertEqual({type(bit) for part in found for bit in part}, {int})

    def test_bits_left_in_the_first_stream(self):
        self.assertEqual(told(joined, SMALL, STREAM + [0], 2, [0, 0, 0]), stream_error(7))
        self.assertEqual(told(joined, SMALL, STREAM + [0, 1], 2, None), stream_error(7))
        self.assertEqual(told(joined, SMALL, STREAM, 1, None), stream_error(4))
        self.assertEqual(told(joined, SMALL, STREAM[:5], 2, None), stream_error(5))

    def test_what_is_no_second_stream(self):
        for name, (value, _) in wrong_streams().items():
            with self.subTest(name=name):
                self.assertEqual(told(joined, SMALL, STREAM, 2, value), bound("second"))
                self.assertEqual(told(joined, SMALL, second=value, many=2, first=STREAM), bound("second"))
        for second in ([], [0], [0, 0], [0, 0, 1], [1, 0, 0], [0, 1, 0, 1], [0, 0, 0, 2], [False, 0, 0], [0, 0, 0, True]):
            self.assertEqual(told(joined, SMALL, STREAM, 2, second), bound("second"))


class InvalidStreams(unittest.TestCase):
    def test_tables(self):
        for name, value in no_tables().items():
            with self.subTest(name=name):
                for action in (read, steps, read_whole, cut):
                    self.assertEqual(told(action, value, STREAM, 2), bound("table"))
                    self.assertEqual(told(action, value, None, None), bound("table"))
                self.assertEqual(told(joined, value, STREAM, 2, [0, 0, 0]), bound("table"))
                self.assertEqual(told(joined, value, None, None, None), bound("table"))
                self.assertEqual(told(deltas, value), bound("table"))

    def test_streams(self):
        for name, (value, at) in wrong_streams().items():
            with self.subTest(name=name):
                for action in (read, steps, read_whole, cut):
                    self.assertEqual(told(action, SMALL, value, 2), stream_error(at))
                    self.assertEqual(told(action, SMALL, value, -1), stream_error(at))
                self.assertEqual(told(read_whole, SMALL, value, None, -1), stream_error(at))
                self.assertEqual(told(joined, SMALL, value, 2, [0, 0, 0]), stream_error(at))
                self.assertEqual(told(joined, SMALL, value, None, None), stream_error(at))

    def test_wrong_bits_behind_those_that_are_used(self):
        for item in wrong_items().values():
            for action in (read, steps, read_whole, cut):
                self.assertEqual(told(action, SMALL, STREAM + [item], 2), stream_error(7))

    def test_many(self):
        for name, value in wrong_integers(0, 10000).items():
            with self.subTest(name=name):
                for action in (read, steps, read_whole, cut):
                    self.assertEqual(told(action, SMALL, STREAM, value), bound("many"))
                    self.assertEqual(told(action, SMALL, [], many=value), bound("many"))
                self.assertEqual(told(read_whole, SMALL, [], value, -1), bound("many"))
                self.assertEqual(told(joined, SMALL, STREAM, value, [0, 0, 0]), bound("many"))
                self.assertEqual(told(joined, SMALL, [], value, None), bound("many"))
        self.assertEqual(told(read, SMALL, STREAM, 10000), stream_error(7))
        self.assertIsNone(told(read, Table([0, 0]), [1], 10000))


class Deltas(unittest.TestCase):
    def test_example(self):
        expected = ([(0, 65526, -5), (1, 196592, 3), (2, 196600, 6)], [0, 1, 2, 3, 4, 5, 6, 7])
        self.assertEqual(deltas(SMALL), expected)

    def test_by_definition(self):
        for spread in small_spreads() + great_spreads():
            bits = log2_down(len(spread))
            rows = []
            lesser = 0
            for symbol in sorted(set(spread)):
                count = spread.count(symbol)
                most = bits if count == 1 else bits - log2_down(count - 1)
                rows.append((symbol, most * 65536 - count * 2 ** most, lesser - count))
                lesser += count
            order = sorted(range(len(spread)), key=lambda state: (spread[state], state))
            with self.subTest(size=len(spread), many=len(rows)):
                self.assertEqual(deltas(Table(spread)), (rows, order))

    def test_what_they_are_for(self):
        for spread in small_spreads() + great_spreads():
            table = Table(spread)
            rows, order = deltas(table)
            size = len(spread)
            chosen = rows if size * len(rows) < 70000 else rows[:9] + rows[-3:]
            with self.subTest(size=size, many=len(rows)):
                for symbol, delta, place in chosen:
                    for state in range(size):
                        whole = size + state
                        bits = (whole + delta) // 65536
                        found = (order[whole // 2 ** bits + place], bits, whole % 2 ** bits)
                        self.assertEqual(table.before(symbol, state), found)

    def test_kinds_and_new_objects(self):
        rows, order = deltas(SMALL)
        self.assertEqual([type(rows), type(order), type(deltas(SMALL))], [list, list, tuple])
        self.assertEqual({type(row) for row in rows}, {tuple})
        self.assertEqual({type(part) for row in rows for part in row} | {type(state) for state in order}, {int})
        rows.clear()
        order.reverse()
        self.assertEqual(len(deltas(SMALL)[0]), 3)
        self.assertEqual(deltas(SMALL)[1], [0, 1, 2, 3, 4, 5, 6, 7])
        self.assertEqual(SMALL, Table(SPREAD))
        self.assertEqual(SMALL.before(2, 5), (7, 3, 5))


class Cases(unittest.TestCase):
    def test_texts_in_the_definitions(self):
        # The definitions go forward by rows; the texts that they find are all texts, each for each last state.
        for spread in small_spreads():
            found = sorted((text, last) for _, text, last in streams_of(spread, 2))
            expected = sorted((text, last) for text in texts_of(spread, 2) for last in range(len(spread)))
            self.assertEqual(found, expected)

    def test_wrong_lists_are_no_streams(self):
        for name, value in wrong_lists().items():
            if isinstance(value, list) and value:
                with self.subTest(name=name):
                    self.assertEqual(told(read, SMALL, value, 1), stream_error(0))


if __name__ == "__main__":
    unittest.main()
