"""Points 9 to 11: the spreads, and the order in which the step reaches the places."""

import random
import unittest
from fractions import Fraction

from spreadstates.spreads import order_of_steps, spread_by_bits, spread_by_runs
from spreadstates.spreads import spread_by_shares, spread_by_steps
from tests.samples import SMALL, bound, drawn_counts, sample_counts, told
from tests.samples import wrong_counts, wrong_integers, wrong_items, wrong_lists

SPREADS = (spread_by_steps, spread_by_runs, spread_by_bits, spread_by_shares)


def size_of(counts):
    return sum(count for _, count in counts)


def step_for(size):
    """The step, word by word as point 9 has it."""
    step = size // 2 + size // 8 + 3
    return step if step % 2 == 1 else step + 1


def steps_by_definition(counts, rare):
    """The spread by steps, laid one symbol after the other as point 9 has it."""
    size = size_of(counts)
    spread = [None] * size
    last = size - 1
    for symbol in rare:
        spread[last] = symbol
        last -= 1
    place = 0
    is_first = True
    for symbol, count in counts:
        for _ in range(0 if symbol in rare else count):
            if not is_first:
                place = (place + step_for(size)) % size
            while place > last:
                place = (place + step_for(size)) % size
            is_first = False
            spread[place] = symbol
    return spread


def runs_by_definition(counts):
    return sorted(symbol for symbol, count in counts for _ in range(count))


def bits_by_definition(counts):
    """The spread by bits, with the bits written out."""
    runs = runs_by_definition(counts)
    bits = len(bin(len(runs))) - 3
    spread = [None] * len(runs)
    for item, symbol in enumerate(runs):
        spread[int(bin(item)[2:].rjust(bits, "0")[::-1], 2)] = symbol
    return spread


def shares_by_definition(counts):
    """The spread by shares, with fractions."""
    shares = [(Fraction(2 * j + 1, 2 * count), symbol) for symbol, count in counts for j in range(count)]
    return [symbol for _, symbol in sorted(shares)]


def order_by_definition(bits, many):
    size = 2 ** bits
    order = [0 if size - many > 0 else None]
    place = step_for(size) % size
    while place != 0:
        if place < size - many:
            order.append(place)
        place = (place + step_for(size)) % size
    return [place for place in order if place is not None]


def rare_choices(counts):
    """Lists of rare symbols: none, the least, the greatest, each second and all of them."""
    single = [symbol for symbol, count in counts if count == 1]
    found = [[], single[:1], single[-1:], single[::2], single[1::2], single[1:], single[:-1], single]
    return [rare for at, rare in enumerate(found) if rare not in found[:at]]


class SpreadByDefinition(unittest.TestCase):
    def test_examples(self):
        self.assertEqual(spread_by_steps(SMALL), [0, 0, 0, 0, 0, 1, 1, 2])
        found = spread_by_steps([(0, 9), (1, 6), (2, 1)], [2])
        self.assertEqual(found, [0, 0, 1, 1, 0, 1, 1, 0, 0, 1, 0, 0, 1, 0, 0, 2])
        self.assertEqual(spread_by_runs(SMALL), [0, 0, 0, 0, 0, 1, 1, 2])
        self.assertEqual(spread_by_bits(SMALL), [0, 0, 0, 1, 0, 1, 0, 2])
        self.assertEqual(spread_by_shares(SMALL), [0, 1, 0, 0, 2, 0, 1, 0])

    def test_steps_without_rare_symbols(self):
        for counts in sample_counts():
            expected = steps_by_definition(counts, [])
            with self.subTest(size=size_of(counts), many=len(counts)):
                self.assertEqual(spread_by_steps(counts), expected)
                self.assertEqual(spread_by_steps(counts, []), expected)
                self.assertEqual(spread_by_steps(counts, ()), expected)

    def test_steps_with_rare_symbols(self):
        for counts in sample_counts():
            for rare in rare_choices(counts):
                with self.subTest(size=size_of(counts), many=len(counts), rare=len(rare)):
                    found = spread_by_steps(counts, rare)
                    self.assertEqual(found, steps_by_definition(counts, rare))
                    self.assertEqual(found[len(found) - len(rare):], rare[::-1])

    def test_runs(self):
        for counts in sample_counts():
            with self.subTest(size=size_of(counts), many=len(counts)):
                self.assertEqual(spread_by_runs(counts), runs_by_definition(counts))

    def test_bits(self):
        for counts in sample_counts():
            with self.subTest(size=size_of(counts), many=len(counts)):
                self.assertEqual(spread_by_bits(counts), bits_by_definition(counts))

    def test_shares(self):
        for counts in sample_counts():
            with self.subTest(size=size_of(counts), many=len(counts)):
                self.assertEqual(spread_by_shares(counts), shares_by_definition(counts))

    def test_each_symbol_stands_as_often_as_its_count(self):
        for counts in sample_counts():
            for spread in SPREADS:
                with self.subTest(size=size_of(counts), many=len(counts), spread=spread.__name__):
                    self.assertEqual(sorted(spread(counts)), runs_by_definition(counts))
            for rare in rare_choices(counts):
                self.assertEqual(sorted(spread_by_steps(counts, rare)), runs_by_definition(counts))

    def test_all_counts_of_small_sizes(self):
        for second in range(1, 16):
            for third in range(1, 16 - second):
                counts = [(4, 16 - second - third), (7, second), (9, third)]
                self.assertEqual(spread_by_steps(counts), steps_by_definition(counts, []))
                self.assertEqual(spread_by_bits(counts), bits_by_definition(counts))
                self.assertEqual(spread_by_shares(counts), shares_by_definition(counts))
                for rare in rare_choices(counts):
                    self.assertEqual(spread_by_steps(counts, rare), steps_by_definition(counts, rare))

    def test_kinds_of_the_result(self):
        for spread in SPREADS:
            found = spread(SMALL)
            self.assertIs(type(found), list)
            self.assertEqual({type(symbol) for symbol in found}, {int})


class SpreadBySteps(unittest.TestCase):
    def test_steps_of_the_sizes(self):
        steps = [order_of_steps(bits, 0)[1] for bits in range(1, 13)]
        # 5, 5, 9, 13, 23, 43, 83, 163, 323, 643, 1283 and 2563, modulo the size.
        self.assertEqual(steps, [1, 1, 1, 13, 23, 43, 83, 163, 323, 643, 1283, 2563])

    def test_all_symbols_are_rare(self):
        for bits in range(1, 10):
            symbols = list(range(3, 3 + 2 ** bits))
            counts = [(symbol, 1) for symbol in symbols]
            self.assertEqual(spread_by_steps(counts, symbols), symbols[::-1])

    def test_all_symbols_but_one_are_rare(self):
        counts = [(symbol, 1) for symbol in range(16)]
        for apart in range(16):
            rare = [symbol for symbol in range(16) if symbol != apart]
            self.assertEqual(spread_by_steps(counts, rare), [apart] + rare[::-1])

    def test_as_many_rare_symbols_as_can_be(self):
        counts = [(symbol, 1) for symbol in range(999)] + [(999, 25)]
        rare = list(range(999))
        self.assertEqual(spread_by_steps(counts, rare), [999] * 25 + rare[::-1])
        self.assertEqual(spread_by_steps(counts, rare[1:]), steps_by_definition(counts, rare[1:]))

    def test_rare_symbols_lie_by_their_order(self):
        counts = [(1, 1), (4, 5), (6, 1), (9, 1)]
        self.assertEqual(spread_by_steps(counts, [1, 6, 9]), [4, 4, 4, 4, 4, 9, 6, 1])
        self.assertEqual(spread_by_steps(counts, [6]), [1, 4, 4, 4, 4, 4, 9, 6])
        self.assertEqual(spread_by_steps(counts, [1, 9]), [4, 4, 4, 4, 4, 6, 9, 1])

    def test_one_symbol(self):
        for bits in range(1, 13):
            for spread in SPREADS:
                self.assertEqual(spread([(999, 2 ** bits)]), [999] * 2 ** bits)

    def test_symbols_are_laid_in_the_order_of_steps(self):
        for bits in range(1, 13):
            counts = drawn_counts(bits, bits, min(5, 2 ** bits))
            rare = [symbol for symbol, count in counts if count == 1]
            found = spread_by_steps(counts, rare)
            laid = [found[place] for place in order_of_steps(bits, len(rare))]
            self.assertEqual(laid, [symbol for symbol in runs_by_definition(counts) if symbol not in rare])


class SpreadByShares(unittest.TestCase):
    def test_equal_shares(self):
        # The shares 1/2 of the counts 1 and 3, 1/4 and 3/4 of 2 and 6, and all of equal counts.
        self.assertEqual(spread_by_shares([(5, 3), (8, 1)]), [5, 5, 8, 5])
        self.assertEqual(spread_by_shares([(5, 1), (8, 3)]), [8, 5, 8, 8])
        self.assertEqual(spread_by_shares([(5, 2), (8, 6)]), [8, 5, 8, 8, 8, 5, 8, 8])
        self.assertEqual(spread_by_shares([(5, 6), (8, 2)]), [5, 5, 8, 5, 5, 5, 8, 5])
        self.assertEqual(spread_by_shares([(2, 2), (5, 2)]), [2, 5, 2, 5])
        self.assertEqual(spread_by_shares([(0, 1), (1, 1), (2, 1), (3, 1)]), [0, 1, 2, 3])

    def test_nearly_equal_shares(self):
        for one in (1, 3, 1363, 1365, 2045, 2046, 2047, 2048):
            for symbols in ((3, 4), (4, 3)):
                counts = sorted([(symbols[0], one), (symbols[1], 4096 - one)])
                self.assertEqual(spread_by_shares(counts), shares_by_definition(counts))


class OrderOfSteps(unittest.TestCase):
    def test_examples(self):
        self.assertEqual(order_of_steps(4, 1), [0, 13, 10, 7, 4, 1, 14, 11, 8, 5, 2, 12, 9, 6, 3])
        self.assertEqual(order_of_steps(3, 0), [0, 1, 2, 3, 4, 5, 6, 7])

    def test_all_places_once(self):
        for bits in range(1, 13):
            order = order_of_steps(bits, 0)
            self.assertEqual(order[0], 0)
            self.assertEqual(sorted(order), list(range(2 ** bits)))
            for one, other in zip(order, order[1:]):
                self.assertEqual((one + step_for(2 ** bits)) % 2 ** bits, other)

    def test_the_last_places_are_left_out(self):
        for bits in range(1, 13):
            size = 2 ** bits
            chosen = range(size + 1) if bits < 7 else {1, 2, 3, size // 2, size - 3, size - 2, size - 1, size}
            for many in chosen:
                with self.subTest(bits=bits, many=many):
                    order = order_of_steps(bits, many)
                    self.assertEqual(order, order_by_definition(bits, many))
                    self.assertEqual(sorted(order), list(range(size - many)))

    def test_all_places_are_left_out(self):
        for bits in range(1, 13):
            self.assertEqual(order_of_steps(bits, 2 ** bits), [])
            self.assertEqual(order_of_steps(bits, 2 ** bits - 1), [0])

    def test_kinds_of_the_result(self):
        found = order_of_steps(5, 2)
        self.assertIs(type(found), list)
        self.assertEqual({type(place) for place in found}, {int})


class Errors(unittest.TestCase):
    def test_counts(self):
        for name, wrong in wrong_counts().items():
            for spread in SPREADS:
                with self.subTest(name=name, spread=spread.__name__):
                    self.assertEqual(told(spread, wrong), bound("counts"))

    def test_sums_of_counts(self):
        for spread in SPREADS:
            for total in range(1, 70):
                is_right = total in (2, 4, 8, 16, 32, 64)
                self.assertEqual(told(spread, [(5, total)]), None if is_right else bound("counts"))
            self.assertEqual(told(spread, [(5, 4096)]), None)
            self.assertEqual(told(spread, [(5, 8192)]), bound("counts"))

    def test_rare_is_no_list(self):
        for name, wrong in wrong_lists().items():
            if wrong not in ([], ()):
                with self.subTest(name=name):
                    self.assertEqual(told(spread_by_steps, SMALL, wrong), bound("rare"))
        for wrong in ((2,), (2, 5), {2}, {2: 1}, 2, "2", range(2, 3), iter([2]), None, True, False, {}, set(), ""):
            self.assertEqual(told(spread_by_steps, SMALL, wrong), bound("rare"))

    def test_items_of_rare(self):
        counts = [(1, 1), (4, 3), (6, 1), (8, 2), (9, 1)]
        for wrong in ([4], [1, 4], [8, 9], [1, 1], [6, 1], [1, 9, 6], [1, 6, 6, 9], [9, 6, 1], [0], [5], [1, 5, 6]):
            with self.subTest(wrong=wrong):
                self.assertEqual(told(spread_by_steps, counts, wrong), bound("rare"))
        for wrong in ([-1], [1000], [10 ** 40], [1, 6, 9, 10], [1] * 100000, [(1, 1)], [[1]], [True], [1, True]):
            with self.subTest(wrong=wrong[:5]):
                self.assertEqual(told(spread_by_steps, counts, wrong), bound("rare"))
        self.assertEqual(told(spread_by_steps, [(0, 1), (1, 1)], [False]), bound("rare"))
        self.assertEqual(told(spread_by_steps, [(0, 1), (1, 1)], [False, True]), bound("rare"))
        for name, item in wrong_items().items():
            with self.subTest(name=name):
                self.assertEqual(told(spread_by_steps, counts, [item]), bound("rare"))
                self.assertEqual(told(spread_by_steps, counts, [1, 6, item]), bound("rare"))

    def test_counts_come_ahead_of_rare(self):
        for rare in (None, [4], (2,), [[]]):
            self.assertEqual(told(spread_by_steps, [(0, 3)], rare), bound("counts"))
            self.assertEqual(told(spread_by_steps, None, rare), bound("counts"))

    def test_bits(self):
        for name, wrong in wrong_integers(1, 12).items():
            with self.subTest(name=name):
                self.assertEqual(told(order_of_steps, wrong, 0), bound("bits"))
                self.assertEqual(told(order_of_steps, wrong, None), bound("bits"))
                self.assertEqual(told(order_of_steps, wrong, -1), bound("bits"))

    def test_many(self):
        for bits in range(1, 13):
            self.assertEqual(told(order_of_steps, bits, 2 ** bits + 1), bound("many"))
            self.assertEqual(told(order_of_steps, bits, -1), bound("many"))
        for name, wrong in wrong_integers(0, 16).items():
            with self.subTest(name=name):
                self.assertEqual(told(order_of_steps, 4, wrong), bound("many"))


class Draws(unittest.TestCase):
    def test_drawn_counts(self):
        draw = random.Random(9)
        for seed in range(150):
            bits = draw.randint(1, 9)
            counts = drawn_counts(seed, bits, draw.randint(1, min(2 ** bits, draw.choice([4, 30, 512]))))
            single = [symbol for symbol, count in counts if count == 1]
            rare = sorted(draw.sample(single, draw.randint(0, len(single))))
            with self.subTest(seed=seed):
                self.assertEqual(spread_by_steps(counts, rare), steps_by_definition(counts, rare))
                self.assertEqual(spread_by_bits(counts), bits_by_definition(counts))
                self.assertEqual(spread_by_shares(counts), shares_by_definition(counts))


if __name__ == "__main__":
    unittest.main()
