"""Points 5 to 8: numbers of texts, counts by rests and by product, and the order of products."""

import itertools
import random
import unittest
from fractions import Fraction

from spreadstates.counts import by_product, by_rests, numbers_of, product_order
from tests.samples import SMALL, bound, limit, raised, text_error, told, wrong_items


def rests_by_definition(numbers, bits):
    """Counts by rests, word by word as point 6 has them."""
    size = 2 ** bits
    total = sum(number for _, number in numbers)
    counts = {symbol: max(1, number * size // total) for symbol, number in numbers}
    rests = {symbol: number * size % total for symbol, number in numbers if number * size // total >= 1}
    while sum(counts.values()) < size:
        best = max(rests, key=lambda symbol: (rests[symbol], -symbol))
        del rests[best]
        counts[best] += 1
    while sum(counts.values()) > size:
        counts[max(counts, key=lambda symbol: (counts[symbol], -symbol))] -= 1
    return sorted(counts.items())


def product_by_definition(numbers, bits):
    """Counts by product, word by word as point 7 has them."""
    counts = {symbol: 1 for symbol, _ in numbers}
    while sum(counts.values()) < 2 ** bits:
        gains = [(Fraction(counts[symbol] + 1, counts[symbol]) ** number, -symbol) for symbol, number in numbers]
        counts[-max(gains)[1]] += 1
    return sorted(counts.items())


def all_counts(many, total):
    """All lists of so many counts of at least 1 with a sum."""
    for cuts in itertools.combinations(range(1, total), many - 1):
        bounds = (0,) + cuts + (total,)
        yield [bounds[at + 1] - bounds[at] for at in range(many)]


def product_of(numbers, counts):
    product = 1
    for (_, number), count in zip(numbers, counts):
        product *= count ** number
    return product


def drawn_numbers(draw, most_symbols, greatest):
    symbols = sorted(draw.sample(range(1000), draw.randint(1, most_symbols)))
    return [(symbol, draw.randint(1, greatest)) for symbol in symbols]


class NumbersOfTexts(unittest.TestCase):
    def test_example(self):
        self.assertEqual(numbers_of([7, 3, 7]), [(3, 1), (7, 2)])

    def test_one_symbol(self):
        self.assertEqual(numbers_of([0]), [(0, 1)])
        self.assertEqual(numbers_of([999]), [(999, 1)])
        self.assertEqual(numbers_of([5] * 10000), [(5, 10000)])

    def test_all_symbols(self):
        text = list(range(999, -1, -1))
        self.assertEqual(numbers_of(text), [(symbol, 1) for symbol in range(1000)])
        self.assertEqual(numbers_of(text * 10), [(symbol, 10) for symbol in range(1000)])

    def test_ten_thousand_symbols(self):
        draw = random.Random(5)
        text = [draw.randrange(1000) ** 2 // 1000 for _ in range(10000)]
        self.assertEqual(numbers_of(text), [(symbol, text.count(symbol)) for symbol in sorted(set(text))])

    def test_kinds_of_the_result(self):
        found = numbers_of([2, 1, 2])
        self.assertIs(type(found), list)
        self.assertEqual([type(item) for item in found], [tuple, tuple])
        self.assertEqual([[type(part) for part in item] for item in found], [[int, int], [int, int]])

    def test_what_is_no_list(self):
        values = [None, True, False, 0, 7, "", "77", b"", b"77", (), (7, 3, 7), {}, {7: 3}, set(), {7}, range(3)]
        for value in values + [iter([7]), bytearray(b"7"), frozenset(), object(), list]:
            self.assertEqual(told(numbers_of, value), text_error(-1))

    def test_empty_text(self):
        self.assertEqual(told(numbers_of, []), text_error(0))

    def test_first_item_that_is_no_symbol(self):
        self.assertEqual(told(numbers_of, [7, 1000]), text_error(1))
        self.assertEqual(told(numbers_of, [-1, 1000]), text_error(0))
        self.assertEqual(told(numbers_of, [7, 3, 10 ** 30, -1]), text_error(2))
        for name, item in wrong_items().items():
            with self.subTest(name=name):
                self.assertEqual(told(numbers_of, [item]), text_error(0))
                self.assertEqual(told(numbers_of, [0, 999, 1, item, 0, None]), text_error(3))
        self.assertEqual(told(numbers_of, [7, (0, 2)]), text_error(1))

    def test_longer_lists(self):
        self.assertEqual(told(numbers_of, [0] * 10001), text_error(10000))
        self.assertEqual(told(numbers_of, [0] * 300000), text_error(10000))
        self.assertEqual(told(numbers_of, [0] * 10000 + [None]), text_error(10000))
        self.assertEqual(told(numbers_of, [0] * 10001 + [None]), text_error(10000))
        self.assertEqual(told(numbers_of, [0] * 9999 + [None, 0]), text_error(9999))
        self.assertEqual(told(numbers_of, [True] + [0] * 10001), text_error(0))
        self.assertEqual(told(numbers_of, [0] * 9999 + [1000]), text_error(9999))


class CountsByRests(unittest.TestCase):
    def test_example(self):
        self.assertEqual(by_rests(SMALL, 2), [(0, 2), (1, 1), (2, 1)])

    def test_quotients_alone(self):
        self.assertEqual(by_rests([(1, 10), (5, 20), (6, 10)], 4), [(1, 4), (5, 8), (6, 4)])
        self.assertEqual(by_rests([(7, 1)], 1), [(7, 2)])
        self.assertEqual(by_rests([(7, 10 ** 30)], 12), [(7, 4096)])

    def test_greatest_rests(self):
        # 24, 40 and 56 by 15: the quotients 1, 2 and 3 with the rests 9, 10 and 11.
        self.assertEqual(by_rests([(0, 3), (1, 5), (2, 7)], 3), [(0, 1), (1, 3), (2, 4)])
        # 8 / 3 for each: the quotient 2, the same rest, and two that are missing go to the least symbols.
        self.assertEqual(by_rests([(4, 1), (5, 1), (6, 1)], 3), [(4, 3), (5, 3), (6, 2)])
        self.assertEqual(by_rests([(0, 1), (1, 1), (2, 1)], 2), [(0, 2), (1, 1), (2, 1)])
        # 1.6 and 2.4 of 4: the greater rest is that of the lesser number.
        self.assertEqual(by_rests([(0, 3), (1, 2)], 2), [(0, 2), (1, 2)])
        self.assertEqual(by_rests([(0, 2), (1, 3)], 2), [(0, 2), (1, 2)])

    def test_rests_of_symbols_below_one_do_not_count(self):
        # 0.9 of 8 gives 1 already, although its rest is the greatest one.
        numbers = [(0, 9), (1, 35), (2, 36)]
        self.assertEqual(by_rests(numbers, 3), [(0, 1), (1, 3), (2, 4)])
        numbers = [(0, 36), (1, 35), (2, 9)]
        self.assertEqual(by_rests(numbers, 3), [(0, 4), (1, 3), (2, 1)])

    def test_one_less_from_the_greatest(self):
        self.assertEqual(by_rests([(0, 1), (1, 1), (2, 1000)], 2), [(0, 1), (1, 1), (2, 2)])
        # 3.96, 3.96 and twice 0.04 of 8: 3 + 3 + 1 + 1 needs none less.
        self.assertEqual(by_rests([(0, 99), (1, 99), (2, 1), (3, 1)], 3), [(0, 3), (1, 3), (2, 1), (3, 1)])
        # 3, 3, 1 and 1: none is missing, and none too many.
        numbers = [(2, 10 ** 9), (3, 10 ** 9), (4, 1), (5, 1)]
        self.assertEqual(by_rests(numbers, 3), [(2, 3), (3, 3), (4, 1), (5, 1)])
        # 1, 3, 3, 1 and 1, one too many: of equal ones, the least symbol gets one less.
        numbers = [(2, 4), (3, 4 * 10 ** 9), (4, 4 * 10 ** 9), (5, 2), (9, 1)]
        self.assertEqual(by_rests(numbers, 3), [(2, 1), (3, 2), (4, 3), (5, 1), (9, 1)])
        # 3, 3, 1, 1, 1 and 1, two too many: the second one is taken from the other one.
        numbers = [(2, 4 * 10 ** 9), (3, 4 * 10 ** 9), (4, 1), (5, 1), (6, 1), (7, 1)]
        self.assertEqual(by_rests(numbers, 3), [(2, 2), (3, 2), (4, 1), (5, 1), (6, 1), (7, 1)])

    def test_many_ones_less(self):
        numbers = [(0, 10 ** 30)] + [(symbol, 1) for symbol in range(1, 1000)]
        self.assertEqual(by_rests(numbers, 10), [(0, 25)] + [(symbol, 1) for symbol in range(1, 1000)])
        self.assertEqual(by_rests(numbers, 12), [(0, 3097)] + [(symbol, 1) for symbol in range(1, 1000)])
        numbers = [(symbol, 10 ** 30 if symbol in (3, 8, 9) else 1) for symbol in range(512)]
        self.assertEqual(by_rests(numbers, 9), [(symbol, 1) for symbol in range(512)])
        self.assertEqual(by_rests(numbers, 10), rests_by_definition(numbers, 10))

    def test_as_many_symbols_as_states(self):
        for bits in range(1, 10):
            numbers = [(symbol, symbol ** 3 + 1) for symbol in range(2 ** bits)]
            self.assertEqual(by_rests(numbers, bits), [(symbol, 1) for symbol in range(2 ** bits)])

    def test_thousand_symbols(self):
        numbers = [(symbol, symbol + 1) for symbol in range(1000)]
        for bits in (10, 11, 12):
            self.assertEqual(by_rests(numbers, bits), rests_by_definition(numbers, bits))

    def test_against_the_definition(self):
        draw = random.Random(6)
        for turn in range(600):
            bits = draw.randint(1, 12)
            greatest = draw.choice([1, 2, 5, 50, 10 ** 4, 10 ** 15, 10 ** 30])
            numbers = drawn_numbers(draw, min(2 ** bits, draw.choice([2, 5, 60])), greatest)
            with self.subTest(numbers=numbers, bits=bits):
                counts = by_rests(numbers, bits)
                self.assertEqual(counts, rests_by_definition(numbers, bits))
                self.assertEqual(sum(count for _, count in counts), 2 ** bits)

    def test_all_small_numbers(self):
        for bits in (1, 2, 3, 4):
            for many in range(1, min(4, 2 ** bits) + 1):
                for drawn in itertools.product(range(1, 8), repeat=many):
                    numbers = list(enumerate(drawn))
                    self.assertEqual(by_rests(numbers, bits), rests_by_definition(numbers, bits))

    def test_nearly_equal_rests_of_great_numbers(self):
        great = 10 ** 30
        numbers = [(0, great - 1), (1, great), (2, great - 2)]
        for bits in range(2, 13):
            self.assertEqual(by_rests(numbers, bits), rests_by_definition(numbers, bits))

    def test_kinds_of_the_result(self):
        found = by_rests(SMALL, 4)
        self.assertEqual([type(item) for item in found], [tuple] * 3)
        self.assertEqual({type(part) for item in found for part in item}, {int})
        self.assertIs(type(found), list)

    def test_errors_in_their_order(self):
        many = [(symbol, 1) for symbol in range(5)]
        self.assertEqual(told(by_rests, [], 13), bound("numbers"))
        self.assertEqual(told(by_rests, [], 2), bound("numbers"))
        self.assertEqual(told(by_rests, many, 13), bound("bits"))
        self.assertEqual(told(by_rests, many, 0), bound("bits"))
        self.assertEqual(told(by_rests, many, True), bound("bits"))

    def test_more_symbols_than_states(self):
        for bits in range(1, 10):
            numbers = [(symbol, 1) for symbol in range(2 ** bits + 1)]
            self.assertEqual(told(by_rests, numbers, bits), limit(2 ** bits))
            self.assertIsNone(raised(by_rests, numbers[1:], bits))
            self.assertIsNone(raised(by_rests, numbers, bits + 1))
        self.assertEqual(told(by_rests, [(symbol, 9) for symbol in range(1000)], 9), limit(512))


class CountsByProduct(unittest.TestCase):
    def test_example(self):
        self.assertEqual(by_product(SMALL, 3), [(0, 5), (1, 2), (2, 1)])

    def test_equal_gains_go_to_the_least_symbol(self):
        self.assertEqual(by_product([(3, 2), (5, 2), (9, 2)], 2), [(3, 2), (5, 1), (9, 1)])
        self.assertEqual(by_product([(3, 2), (5, 2), (9, 2)], 3), [(3, 3), (5, 3), (9, 2)])
        self.assertEqual(by_product([(0, 1), (1, 2), (2, 2)], 2), [(0, 1), (1, 2), (2, 1)])

    def test_one_symbol(self):
        for bits in range(1, 9):
            self.assertEqual(by_product([(9, 2000)], bits), [(9, 2 ** bits)])

    def test_as_many_symbols_as_states(self):
        for bits in range(1, 9):
            numbers = [(symbol, symbol % 7 + 1) for symbol in range(2 ** bits)]
            self.assertEqual(by_product(numbers, bits), [(symbol, 1) for symbol in range(2 ** bits)])

    def test_no_other_counts_have_a_greater_product(self):
        for bits in (1, 2, 3, 4):
            for many in range(1, min(4, 2 ** bits) + 1):
                rows = list(all_counts(many, 2 ** bits))
                for drawn in itertools.product((1, 2, 3, 7), repeat=many):
                    numbers = list(enumerate(drawn))
                    counts = [count for _, count in by_product(numbers, bits)]
                    self.assertIn(counts, rows)
                    self.assertEqual(product_of(numbers, counts), max(product_of(numbers, row) for row in rows))

    def test_against_the_definition(self):
        draw = random.Random(7)
        for turn in range(60):
            bits = draw.randint(1, 6)
            numbers = drawn_numbers(draw, min(2 ** bits, 12), draw.choice([1, 2, 9, 40, 160]))
            with self.subTest(numbers=numbers, bits=bits):
                self.assertEqual(by_product(numbers, bits), product_by_definition(numbers, bits))

    def test_at_the_limits(self):
        for numbers in ([(0, 1000), (1, 1000)], [(0, 667), (1, 668), (2, 665)], [(0, 1999), (1, 1)]):
            self.assertEqual(by_product(numbers, 8), product_by_definition(numbers, 8))

    def test_nearly_equal_gains(self):
        # The numbers are alike to a thousandth, so which gain is greater hangs on little.
        for numbers in ([(0, 1001), (1, 999)], [(0, 999), (1, 1001)], [(0, 1000), (1, 1000)]):
            for bits in (4, 8):
                self.assertEqual(by_product(numbers, bits), product_by_definition(numbers, bits))

    def test_kinds_of_the_result(self):
        found = by_product(SMALL, 4)
        self.assertIs(type(found), list)
        self.assertEqual([type(item) for item in found], [tuple] * 3)
        self.assertEqual({type(part) for item in found for part in item}, {int})

    def test_invalid_arguments_in_their_order(self):
        long = [(symbol, 1000) for symbol in range(3)]
        self.assertEqual(told(by_product, [], 13), bound("numbers"))
        self.assertEqual(told(by_product, long, 13), bound("bits"))
        self.assertEqual(told(by_product, long, 0), bound("bits"))
        self.assertEqual(told(by_product, long, None), bound("bits"))

    def test_more_symbols_than_states_come_first(self):
        self.assertEqual(told(by_product, [(0, 1000), (1, 1000), (2, 1)], 1), limit(2))
        for bits in range(1, 10):
            numbers = [(symbol, 9000) for symbol in range(2 ** bits + 1)]
            self.assertEqual(told(by_product, numbers, bits), limit(2 ** bits))

    def test_more_bits(self):
        for bits in (9, 10, 11, 12):
            self.assertEqual(told(by_product, [(0, 1)], bits), limit(8))
            self.assertEqual(told(by_product, [(0, 2001)], bits), limit(8))
        self.assertIsNone(raised(by_product, [(0, 1)], 8))

    def test_greater_sums(self):
        self.assertEqual(told(by_product, [(0, 2001)], 8), limit(2000))
        self.assertEqual(told(by_product, [(0, 1000), (1, 1001)], 1), limit(2000))
        self.assertEqual(told(by_product, [(0, 10 ** 30), (1, 10 ** 30)], 1), limit(2000))
        self.assertIsNone(raised(by_product, [(0, 2000)], 8))
        self.assertIsNone(raised(by_product, [(0, 1000), (1, 1000)], 1))


class OrderOfProducts(unittest.TestCase):
    def test_example(self):
        self.assertEqual(product_order([(0, 5), (1, 2)], [(0, 3), (1, 1)], [(0, 2), (1, 2)]), 1)
        self.assertEqual(product_order([(0, 5), (1, 2)], [(0, 2), (1, 2)], [(0, 3), (1, 1)]), -1)

    def test_equal_products(self):
        self.assertEqual(product_order(SMALL, SMALL, list(SMALL)), 0)
        self.assertEqual(product_order([(3, 1), (4, 1)], [(3, 3), (4, 5)], [(3, 5), (4, 3)]), 0)
        # 3 * 4 * 1 and 4 * 3 * 1; 4 ** 2 * 1 * 3 and 2 ** 2 * 4 * 2 are 48 and 32.
        numbers = [(3, 1), (4, 1), (5, 1)]
        self.assertEqual(product_order(numbers, [(3, 3), (4, 4), (5, 1)], [(3, 4), (4, 3), (5, 1)]), 0)
        numbers = [(3, 2), (4, 1), (5, 1)]
        self.assertEqual(product_order(numbers, [(3, 4), (4, 1), (5, 3)], [(3, 2), (4, 4), (5, 2)]), 1)

    def test_unlike_sums(self):
        self.assertEqual(product_order([(7, 1)], [(7, 2)], [(7, 4096)]), -1)
        self.assertEqual(product_order([(7, 2000)], [(7, 4096)], [(7, 2048)]), 1)
        # 7 * 1 ** 2 is less than 1 * 3 ** 2, and 2 ** 3 * 2 is greater than 1 ** 3 * 7.
        self.assertEqual(product_order([(0, 1), (1, 2)], [(0, 7), (1, 1)], [(0, 1), (1, 3)]), -1)
        self.assertEqual(product_order([(0, 3), (1, 1)], [(0, 2), (1, 2)], [(0, 1), (1, 7)]), 1)
        # 2 * 4 * 2 is greater than 1 * 1 * 14, and 2 * 2 * 4 is less than 1 * 2 * 13.
        numbers = [(0, 1), (1, 1), (2, 1)]
        self.assertEqual(product_order(numbers, [(0, 2), (1, 4), (2, 2)], [(0, 1), (1, 1), (2, 14)]), 1)
        self.assertEqual(product_order(numbers, [(0, 2), (1, 2), (2, 4)], [(0, 1), (1, 2), (2, 13)]), -1)
        # 1 * 4 * 3 ** 2 is 3 * 12 * 1 ** 2, with the sums 8 and 16.
        numbers = [(0, 1), (1, 1), (2, 2)]
        self.assertEqual(product_order(numbers, [(0, 1), (1, 4), (2, 3)], [(0, 3), (1, 12), (2, 1)]), 0)

    def test_all_pairs_of_small_counts(self):
        for drawn in ((1, 1), (1, 2), (5, 2), (3, 9)):
            numbers = list(enumerate(drawn))
            rows = [row for total in (2, 4, 8, 16) for row in all_counts(2, total)]
            for one, other in itertools.product(rows, repeat=2):
                here, there = product_of(numbers, one), product_of(numbers, other)
                found = product_order(numbers, list(enumerate(one)), list(enumerate(other)))
                self.assertEqual(found, (here > there) - (here < there))
                self.assertIs(type(found), int)

    def test_products_that_are_nearly_equal(self):
        numbers = [(0, 1000), (1, 1000)]
        self.assertEqual(product_order(numbers, [(0, 2047), (1, 2049)], [(0, 2048), (1, 2048)]), -1)
        self.assertEqual(product_order(numbers, [(0, 2047), (1, 2049)], [(0, 2049), (1, 2047)]), 0)
        self.assertEqual(product_order([(0, 1001), (1, 999)], [(0, 2049), (1, 2047)], [(0, 2050), (1, 2046)]), -1)

    def test_product_by_product_is_the_greatest(self):
        draw = random.Random(8)
        for turn in range(40):
            bits = draw.randint(3, 8)
            numbers = drawn_numbers(draw, 8, 200)
            best = by_product(numbers, bits)
            self.assertIn(product_order(numbers, best, by_rests(numbers, bits)), (0, 1))

    def test_symbols_must_be_those_of_the_numbers(self):
        numbers = [(0, 5), (1, 2)]
        for wrong in ([(0, 1), (2, 1)], [(0, 2)], [(0, 2), (1, 1), (2, 1)], [(1, 1), (2, 1)], [(0, 2), (1, 1)], []):
            self.assertEqual(told(product_order, numbers, wrong, [(0, 1), (1, 1)]), bound("counts"))
            self.assertEqual(told(product_order, numbers, [(0, 1), (1, 1)], wrong), bound("others"))
            self.assertEqual(told(product_order, numbers, wrong, wrong), bound("counts"))

    def test_errors_in_their_order(self):
        long = [(0, 2000), (1, 1)]
        good = [(0, 1), (1, 1)]
        self.assertEqual(told(product_order, [], None, None), bound("numbers"))
        self.assertEqual(told(product_order, long, None, None), bound("counts"))
        self.assertEqual(told(product_order, long, good, None), bound("others"))
        self.assertEqual(told(product_order, long, good, good), limit(2000))

    def test_limit(self):
        good = [(0, 1), (1, 1)]
        self.assertEqual(product_order([(0, 1999), (1, 1)], good, good), 0)
        self.assertEqual(told(product_order, [(0, 1000), (1, 1001)], good, good), limit(2000))
        self.assertEqual(told(product_order, [(0, 10 ** 30), (1, 10 ** 30)], good, good), limit(2000))
        many = [(symbol, 2) for symbol in range(1000)]
        counts = [(symbol, 1) for symbol in range(999)] + [(999, 25)]
        self.assertEqual(product_order(many, counts, counts), 0)

    def test_more_than_8_bits_are_no_fault_here(self):
        self.assertEqual(product_order([(0, 1), (1, 1)], [(0, 2048), (1, 2048)], [(0, 4095), (1, 1)]), 1)


if __name__ == "__main__":
    unittest.main()
