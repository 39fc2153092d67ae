"""Points 53 to 55: blocks with tables that follow the text, their streams, and the chance of a text."""

import itertools
import random
import unittest
from fractions import Fraction

from spreadstates.adaptive import adaptive_chance, adaptive_counts, best_block, read_adaptive, write_adaptive
from spreadstates.counts import by_rests
from spreadstates.spreads import spread_by_steps
from tests.definitions import before_of, digits, read_by_definition, rows_of, write_by_definition
from tests.samples import bound, limit, nested, stream_error, symbol_error, text_error, told, wrong_integers


def counts_by_definition(text, size, block, bits, window):
    """The counts of all blocks, each from what stands ahead of it."""
    found = []
    for at in range(0, len(text), block):
        ahead = text[:at]
        if window is not None:
            ahead = ahead[max(0, len(ahead) - window):]
        found.append(by_rests([(symbol, 1 + ahead.count(symbol)) for symbol in range(size)], bits))
    return found


def write_by_blocks(text, size, block, bits, window, is_new, last):
    """The stream, block by block and symbol by symbol."""
    spreads = [spread_by_steps(counts) for counts in counts_by_definition(text, size, block, bits, window)]
    if is_new:
        parts = [text[at:at + block] for at in range(0, len(text), block)]
        streams = [write_by_definition(spread, part, last) for spread, part in zip(spreads, parts)]
        return [bit for stream in streams for bit in stream]
    state = last
    stream = []
    for at in range(len(text) - 1, -1, -1):
        (state, wide, number), = before_of(rows_of(spreads[at // block]), text[at], state)
        stream = digits(number, wide) + stream
    return digits(state, bits) + stream


def drawn_text(seed, size, many):
    draw = random.Random(seed)
    rare = [draw.randrange(size) for _ in range(3)]
    return [draw.choice(rare) if draw.random() < 0.7 else draw.randrange(size) for _ in range(many)]


def some_cases():
    """Tuples (text, size, block, bits, window)."""
    for at, (size, bits) in enumerate(((2, 1), (2, 3), (3, 2), (5, 4), (16, 4), (30, 6), (256, 8))):
        for many in (0, 1, 2, 7, 30, 60):
            for block in (1, 2, 7, 30, 100, 10000):
                if (many + block - 1) // block * 2 ** bits <= 8000:
                    for window in (None, 0, 1, 3, 10, 10000):
                        yield drawn_text(at * 100 + many, size, many), size, block, bits, window


class Counts(unittest.TestCase):
    def test_example(self):
        self.assertEqual(adaptive_counts([0, 1], 2, 1, 2), [[(0, 2), (1, 2)], [(0, 3), (1, 1)]])

    def test_against_the_definition(self):
        for text, size, block, bits, window in some_cases():
            expected = counts_by_definition(text, size, block, bits, window)
            self.assertEqual(adaptive_counts(text, size, block, bits, window), expected)
            if window is None:
                self.assertEqual(adaptive_counts(text, size, block, bits), expected)

    def test_windows(self):
        text = [0, 0, 0, 1, 1, 1, 0, 0]
        for window in range(10):
            self.assertEqual(adaptive_counts(text, 2, 2, 6, window), counts_by_definition(text, 2, 2, 6, window))
        even = by_rests([(0, 1), (1, 1)], 6)
        self.assertEqual(adaptive_counts(text, 2, 2, 6, 0), [even] * 4)
        self.assertEqual(adaptive_counts(text, 2, 2, 6, 10000), adaptive_counts(text, 2, 2, 6))
        self.assertEqual(adaptive_counts(text, 2, 2, 6, 1)[1], by_rests([(0, 2), (1, 1)], 6))

    def test_the_empty_text(self):
        self.assertEqual(adaptive_counts([], 2, 1, 1), [])
        self.assertEqual(told(adaptive_counts, [], 3, 1, 1), limit(2))

    def test_a_block_as_long_as_the_text(self):
        for text in ([0, 1, 1, 1], [3] * 9, drawn_text(3, 8, 40)):
            for block in (len(text), len(text) + 1, 10000):
                even = by_rests([(symbol, 1) for symbol in range(8)], 5)
                self.assertEqual(adaptive_counts(text, 8, block, 5), [even])

    def test_limits(self):
        self.assertEqual(told(adaptive_counts, [0], 3, 1, 1), limit(2))
        self.assertEqual(told(adaptive_counts, [0], 256, 1, 7), limit(128))
        self.assertIsNone(told(adaptive_counts, [0], 256, 1, 8))
        # 48 blocks of 4096 states are kept, 49 are not; the last block counts, however short it is.
        self.assertIsNone(told(adaptive_counts, [0] * 96, 2, 2, 12))
        self.assertEqual(told(adaptive_counts, [0] * 97, 2, 2, 12), limit(200000))
        self.assertEqual(told(adaptive_counts, [0] * 6251, 2, 1, 5), limit(200000))
        self.assertIsNone(told(adaptive_counts, [0] * 6250, 2, 1, 5))
        self.assertEqual(told(adaptive_counts, [0] * 10000, 256, 1, 7), limit(128))

    def test_errors_in_their_order(self):
        self.assertEqual(told(adaptive_counts, None, 0, 0, 0, -1), text_error(-1))
        self.assertEqual(told(adaptive_counts, [0, 1000], 0, 0, 0, -1), text_error(1))
        for value in wrong_integers(2, 256).values():
            self.assertEqual(told(adaptive_counts, [0, 999], value, 0, 0, -1), bound("size"))
        self.assertEqual(told(adaptive_counts, [0, 2, 3], 2, 0, 0, -1), symbol_error(2))
        self.assertEqual(told(adaptive_counts, [0, 256, 999], 256, 0, 0, -1), symbol_error(256))
        for value in wrong_integers(1, 10000).values():
            self.assertEqual(told(adaptive_counts, [0, 1], 2, value, 0, -1), bound("block"))
        for value in wrong_integers(1, 12).values():
            self.assertEqual(told(adaptive_counts, [0, 1], 2, 1, value, -1), bound("bits"))
        for value in wrong_integers(0, 10000).values():
            if value is not None:
                self.assertEqual(told(adaptive_counts, [0, 1], 256, 1, 1, value), bound("window"))


class Streams(unittest.TestCase):
    def test_examples(self):
        self.assertEqual(write_adaptive([0, 1], 2, 1, 2), [0, 1, 1, 0, 0])
        self.assertEqual(read_adaptive([0, 1, 1, 0, 0], 2, 2, 1, 2), ([0, 1], [0]))

    def test_against_the_definition(self):
        for at, (text, size, block, bits, window) in enumerate(some_cases()):
            last = at % 2 ** bits
            blocks = (len(text) + block - 1) // block
            for is_new in (False, True):
                stream = write_adaptive(text, size, block, bits, window=window, is_new=is_new, last=last)
                self.assertEqual(stream, write_by_blocks(text, size, block, bits, window, is_new, last))
                found = read_adaptive(stream, len(text), size, block, bits, window=window, is_new=is_new)
                self.assertEqual(found, (text, [last] * blocks if is_new else [last]))
                self.assertEqual(told(read_adaptive, stream + [1], len(text), size, block, bits, window=window,
                                      is_new=is_new), stream_error(len(stream)))
                if stream:
                    self.assertEqual(told(read_adaptive, stream[:-1], len(text), size, block, bits, window=window,
                                          is_new=is_new), stream_error(len(stream) - 1))

    def test_defaults(self):
        text = [0, 1, 1, 0, 1]
        self.assertEqual(write_adaptive(text, 2, 2, 3), write_by_blocks(text, 2, 2, 3, None, False, 0))
        stream = write_adaptive(text, 2, 2, 3, last=5)
        self.assertEqual(read_adaptive(stream, 5, 2, 2, 3), (text, [5]))

    def test_other_last_states_of_blocks(self):
        # Each block of its own may end in any state; reading tells them all.
        text = [0, 1, 1, 0, 1]
        counts = counts_by_definition(text, 2, 2, 3, None)
        stream = []
        for at, last in ((0, 3), (2, 7), (4, 1)):
            stream += write_by_definition(spread_by_steps(counts[at // 2]), text[at:at + 2], last)
        self.assertEqual(read_adaptive(stream, 5, 2, 2, 3, is_new=True), (text, [3, 7, 1]))

    def test_the_state_goes_over(self):
        # The state behind a block in reading is the first one of the next block.
        text = drawn_text(4, 4, 20)
        stream = write_adaptive(text, 4, 6, 4, last=9)
        state, used, read = int("".join(map(str, stream[:4])), 2), 4, []
        for at in range(0, 20, 6):
            spread = spread_by_steps(counts_by_definition(text, 4, 6, 4, None)[at // 6])
            many = min(6, 20 - at)
            part, state, more, _ = read_by_definition(spread, digits(state, 4) + stream[used:], many)
            used += more - 4
            read += part
        self.assertEqual((read, state, used), (text, 9, len(stream)))

    def test_the_empty_text(self):
        self.assertEqual(write_adaptive([], 2, 1, 3, last=6), [1, 1, 0])
        self.assertEqual(write_adaptive([], 2, 1, 3, last=6, is_new=True), [])
        self.assertEqual(read_adaptive([1, 1, 0], 0, 2, 1, 3), ([], [6]))
        self.assertEqual(read_adaptive([], 0, 2, 1, 3, is_new=True), ([], []))
        self.assertEqual(told(read_adaptive, [1, 1], 0, 2, 1, 3), stream_error(2))
        self.assertEqual(told(read_adaptive, [1], 0, 2, 1, 3, is_new=True), stream_error(0))

    def test_all_lists_of_bits(self):
        # What can be read is the stream of just what it tells.
        found = 0
        for many_bits in range(9):
            for bits in itertools.product((0, 1), repeat=many_bits):
                for many in (0, 1, 2, 3):
                    if told(read_adaptive, list(bits), many, 3, 2, 2) is None:
                        text, (last,) = read_adaptive(list(bits), many, 3, 2, 2)
                        self.assertEqual(write_adaptive(text, 3, 2, 2, last=last), list(bits))
                        found += 1
        self.assertEqual(sum(len(list(itertools.product(range(3), repeat=many))) for many in range(4)) * 4, found)

    def test_great_cases(self):
        text = drawn_text(54, 256, 780)
        stream = write_adaptive(text, 256, 1, 8, window=100)
        self.assertEqual(read_adaptive(stream, 780, 256, 1, 8, window=100), (text, [0]))
        text = drawn_text(55, 16, 10000)
        stream = write_adaptive(text, 16, 3, 4)
        self.assertEqual(read_adaptive(stream, 10000, 16, 3, 4), (text, [0]))

    def test_errors_of_writing(self):
        self.assertEqual(told(write_adaptive, [0, 1000], 0, 0, 0, window=-1, is_new=0, last=-1), text_error(1))
        self.assertEqual(told(write_adaptive, [0, 999], 257, 0, 0, window=-1, is_new=0, last=-1), bound("size"))
        self.assertEqual(told(write_adaptive, [0, 999], 256, 0, 0, window=-1, is_new=0, last=-1), symbol_error(999))
        self.assertEqual(told(write_adaptive, [0], 2, 0, 0, window=-1, is_new=0, last=-1), bound("block"))
        self.assertEqual(told(write_adaptive, [0], 2, 1, 13, window=-1, is_new=0, last=-1), bound("bits"))
        self.assertEqual(told(write_adaptive, [0], 2, 1, 1, window=-1, is_new=0, last=-1), bound("window"))
        for value in (0, 1, None, "True", [], [True], nested(lambda value: [value])):
            self.assertEqual(told(write_adaptive, [0], 256, 1, 1, is_new=value, last=-1), bound("is_new"))
            self.assertEqual(told(read_adaptive, [0], 9, 256, 1, 1, is_new=value), bound("is_new"))
        for value in wrong_integers(0, 1).values():
            self.assertEqual(told(write_adaptive, [0], 256, 1, 1, last=value), bound("last"))
            self.assertEqual(told(write_adaptive, [0], 2, 1, 1, is_new=True, last=value), bound("last"))
        self.assertEqual(told(write_adaptive, [0], 256, 1, 1), limit(2))
        self.assertEqual(told(write_adaptive, [0] * 97, 2, 2, 12), limit(200000))

    def test_errors_of_reading(self):
        self.assertEqual(told(read_adaptive, (0,), -1, 0, 0, 0, window=-1, is_new=0), stream_error(-1))
        self.assertEqual(told(read_adaptive, [0, 2], -1, 0, 0, 0, window=-1, is_new=0), stream_error(1))
        for value in wrong_integers(0, 10000).values():
            self.assertEqual(told(read_adaptive, [0], value, 0, 0, 0, window=-1, is_new=0), bound("many"))
        self.assertEqual(told(read_adaptive, [0], 9, 1, 0, 0, window=-1, is_new=0), bound("size"))
        self.assertEqual(told(read_adaptive, [0], 9, 2, 0, 0, window=-1, is_new=0), bound("block"))
        self.assertEqual(told(read_adaptive, [0], 9, 2, 1, 0, window=-1, is_new=0), bound("bits"))
        self.assertEqual(told(read_adaptive, [0], 9, 2, 1, 1, window=10001, is_new=0), bound("window"))
        self.assertEqual(told(read_adaptive, [], 97, 3, 2, 1), limit(2))
        self.assertEqual(told(read_adaptive, [], 97, 2, 2, 12), limit(200000))
        self.assertEqual(told(read_adaptive, [], 96, 2, 2, 12), stream_error(0))


class Chances(unittest.TestCase):
    def chance(self, text, size):
        found = Fraction(1)
        for at, symbol in enumerate(text):
            found *= Fraction(1 + text[:at].count(symbol), size + at)
        return found.numerator, found.denominator

    def test_examples(self):
        self.assertEqual(adaptive_chance([0, 1], 2), (1, 6))
        self.assertEqual(best_block([0, 1], 2, 2, 2), (4, 2))

    def test_against_fractions(self):
        for size in (2, 3, 10, 256):
            for many in (0, 1, 2, 5, 30, 200):
                for seed in range(3):
                    text = drawn_text(seed, size, many)
                    self.assertEqual(adaptive_chance(text, size), self.chance(text, size))
        self.assertEqual(adaptive_chance([], 256), (1, 1))
        self.assertEqual(adaptive_chance([1] * 200, 2), (1, 201))

    def test_facts(self):
        for size, many in ((2, 6), (3, 4), (4, 3), (5, 2), (2, 0)):
            texts = list(itertools.product(range(size), repeat=many))
            self.assertEqual(sum(Fraction(*adaptive_chance(list(text), size)) for text in texts), 1)
            for text in texts:
                self.assertEqual(adaptive_chance(list(text), size), adaptive_chance(sorted(text), size))

    def test_best_blocks(self):
        chosen = set()
        for seed in range(30):
            size, bits = ((2, 1), (2, 4), (3, 2), (8, 3), (9, 6))[seed % 5]
            text = drawn_text(seed, size, (0, 1, 9, 50, 200)[seed // 5 % 5])
            for most in (1, 5, 64):
                rows = [(len(write_adaptive(text, size, block, bits)), block) for block in range(1, most + 1)]
                self.assertEqual(best_block(text, size, bits, most), min(rows))
                chosen.add(min(rows)[1])
        self.assertGreater(len(chosen), 4)
        self.assertEqual(best_block([], 2, 6, 64), (6, 1))

    def test_errors_of_chances(self):
        self.assertEqual(told(adaptive_chance, [0, None], 1), text_error(1))
        for value in wrong_integers(2, 256).values():
            self.assertEqual(told(adaptive_chance, [300] * 201, value), bound("size"))
        self.assertEqual(told(adaptive_chance, [0] * 201 + [7], 7), symbol_error(7))
        self.assertEqual(told(adaptive_chance, [0] * 201, 7), limit(200))
        self.assertIsNone(told(adaptive_chance, [0] * 200, 7))

    def test_errors_of_blocks(self):
        self.assertEqual(told(best_block, [0, None], 1, 0, 0), text_error(1))
        self.assertEqual(told(best_block, [300] * 201, 1, 0, 0), bound("size"))
        self.assertEqual(told(best_block, [0] * 201 + [300], 256, 0, 0), symbol_error(300))
        for value in wrong_integers(1, 12).values():
            self.assertEqual(told(best_block, [0] * 201, 256, value, 0), bound("bits"))
        for value in wrong_integers(1, 64).values():
            self.assertEqual(told(best_block, [0] * 201, 256, 7, value), bound("most"))
        self.assertEqual(told(best_block, [0] * 201, 256, 7, 64), limit(200))
        self.assertEqual(told(best_block, [0] * 200, 256, 7, 64), limit(6))
        self.assertEqual(told(best_block, [0] * 200, 65, 6, 64), limit(64))
        self.assertEqual(told(best_block, [], 3, 1, 1), limit(2))
        self.assertIsNone(told(best_block, [0] * 200, 64, 6, 64))

    def test_kinds(self):
        for found in (adaptive_chance([0, 1], 2), best_block([0, 1], 2, 2, 2)):
            self.assertEqual([type(found)] + [type(part) for part in found], [tuple, int, int])
        found = read_adaptive([0, 1, 1, 0, 0], 2, 2, 1, 2)
        self.assertEqual([type(found)] + [type(part) for part in found], [tuple, list, list])


if __name__ == "__main__":
    unittest.main()
