"""Points 21 to 25: lengths of streams, the extreme ones, their numbers, the order of texts, and means."""

import random
import unittest
from fractions import Fraction

from spreadstates.coding import write
from spreadstates.lengths import best_last, extremes, least_mean, length, length_counts, lengths, longest_text
from spreadstates.lengths import means, place_of, shortest_text, text_at
from spreadstates.tables import Table
from tests.definitions import great_spreads, rows_of, small_spreads, streams_of, texts_of, width_of
from tests.definitions import drawn_spread
from tests.samples import SPREAD, bound, limit, symbol_error, text_error, told
from tests.samples import no_tables, wrong_integers, wrong_texts

SMALL = Table(SPREAD)
FAR = 10 ** 30


def some_many(spread, most=600):
    """Numbers of symbols for which there are not too many streams."""
    return [many for many in range(6) if len(spread) * len(set(spread)) ** many <= most]


def drawn_text(seed, spread, many):
    draw = random.Random(seed)
    return [draw.choice(spread) for _ in range(many)]


def bounds_by_steps(spread, many):
    """The least and the greatest length, going back from the end symbol by symbol."""
    rows = rows_of(spread)
    least = [0] * len(spread)
    most = [0] * len(spread)
    for _ in range(many):
        least = [bits + min(least[base:base + 2 ** bits]) for _, bits, base in rows]
        most = [bits + max(most[base:base + 2 ** bits]) for _, bits, base in rows]
    return width_of(spread) + min(least), width_of(spread) + max(most)


def bounds_by_doubling(spread, many):
    """The least and the greatest length by sums between each two states, for steps that are doubled."""
    rows = rows_of(spread)
    size = len(spread)
    found = []
    for sign in (1, -1):
        once = [[sign * bits if base <= to < base + 2 ** bits else None for to in range(size)] for _, bits, base in rows]
        sums = [0] * size
        rest = many
        while rest:
            if rest % 2:
                sums = [min(way + sums[to] for to, way in enumerate(row) if way is not None) for row in once]
            once = [[least_of(row, [other[to] for other in once]) for to in range(size)] for row in once]
            rest //= 2
        found.append(width_of(spread) + sign * min(sums))
    return tuple(found)


def least_of(row, column):
    return min([one + other for one, other in zip(row, column) if one is not None and other is not None], default=None)


def rings_without_a_state_twice(spread):
    """The means of all rings without a state twice."""
    rows = rows_of(spread)
    found = []

    def go(first, states, bits):
        _, more, base = rows[states[-1]]
        for state in range(base, base + 2 ** more):
            if state == first:
                found.append(Fraction(bits + more, len(states)))
            elif state > first and state not in states:
                go(first, states + [state], bits + more)

    for first in range(len(spread)):
        go(first, [first], 0)
    return found


def has_ring_below(spread, sign, mean):
    """Whether there is a ring with a mean, times the sign, below this one: going around it, sums fall for ever."""
    hops = [(sign * bits * mean.denominator - mean.numerator, base, base + 2 ** bits) for _, bits, base in rows_of(spread)]
    sums = [0] * len(spread)
    for _ in range(len(spread) + 1):
        before = sums
        sums = [min(here, cost + min(before[base:end])) for here, (cost, base, end) in zip(before, hops)]
    return sums != before


class Lengths(unittest.TestCase):
    def test_all_texts_of_small_tables(self):
        for spread in small_spreads():
            table = Table(spread)
            for many in some_many(spread):
                found = {}
                for stream, text, last in streams_of(spread, many):
                    self.assertEqual(length(table, text, last), len(stream))
                    found[tuple(text), last] = len(stream)
                for text in texts_of(spread, many):
                    expected = [found[tuple(text), last] for last in range(len(spread))]
                    self.assertEqual(lengths(table, text), expected)
                    least = min(expected)
                    self.assertEqual(best_last(table, text), (least, expected.index(least)))
                    self.assertEqual(length(table, text), expected[0])

    def test_examples(self):
        self.assertEqual(lengths(SMALL, [0]), [3, 3, 4, 4, 4, 4, 4, 4])
        self.assertEqual(best_last(SMALL, [0]), (3, 0))
        self.assertEqual(length(SMALL, [0, 2]), 7)

    def test_against_the_streams(self):
        for spread in great_spreads():
            table = Table(spread)
            many = min(40, 200000 // len(spread))
            text = drawn_text(21, spread, many)
            found = lengths(table, text)
            self.assertEqual(len(found), len(spread))
            chosen = range(len(spread)) if len(spread) <= 64 else random.Random(1).sample(range(len(spread)), 40)
            for last in chosen:
                self.assertEqual(found[last], len(write(table, text, last)))
                self.assertEqual(found[last], length(table, text, last))
            self.assertEqual(best_last(table, text), (min(found), found.index(min(found))))

    def test_of_equal_ones_the_least_state(self):
        for spread in ([0, 1], [3] * 8, [0, 1, 1, 0], list(range(16))):
            text = drawn_text(22, spread, 5)
            self.assertEqual(best_last(Table(spread), text)[1], 0)
        self.assertEqual(lengths(SMALL, [0, 0]), [4, 4, 4, 4, 4, 4, 5, 5])
        self.assertEqual(best_last(SMALL, [0, 0]), (4, 0))

    def test_empty_text(self):
        for spread in small_spreads() + great_spreads():
            table = Table(spread)
            self.assertEqual(lengths(table, []), [width_of(spread)] * len(spread))
            self.assertEqual(best_last(table, []), (width_of(spread), 0))
            self.assertEqual(length(table, [], len(spread) - 1), width_of(spread))

    def test_long_texts(self):
        for spread in (SPREAD, [0] * 63 + [1], great_spreads()[-1]):
            table = Table(spread)
            text = drawn_text(23, spread, 10000)
            self.assertEqual(length(table, text, 1), len(write(table, text, 1)))
        table = Table([0, 1, 0, 0, 1, 2, 0, 0, 0, 3, 0, 0, 0, 1, 0, 0])
        text = drawn_text(24, table.spread(), 10000)
        self.assertEqual(lengths(table, text), [len(write(table, text, last)) for last in range(16)])

    def test_limit(self):
        for size, many in ((32, 6250), (64, 3125), (4096, 48), (2048, 97)):
            table = Table([0, 1] * (size // 2))
            for action in (lengths, best_last):
                self.assertIsNone(told(action, table, [1] * many))
                self.assertEqual(told(action, table, [1] * (many + 1)), limit(200000))
                self.assertEqual(told(action, table, [1] * many + [2]), symbol_error(2))
            self.assertIsNone(told(length, table, [1] * 10000))
        self.assertIsNone(told(lengths, Table([0, 1] * 8), [0] * 10000))

    def test_errors(self):
        for name, value in no_tables().items():
            for action in (length, lengths, best_last):
                with self.subTest(name=name):
                    self.assertEqual(told(action, value, [0, 2]), bound("table"))
                    self.assertEqual(told(action, value, None), bound("table"))
            self.assertEqual(told(length, value, None, None), bound("table"))
        for name, (value, at) in wrong_texts().items():
            for action in (length, lengths, best_last):
                with self.subTest(name=name):
                    self.assertEqual(told(action, SMALL, value), text_error(at))
            self.assertEqual(told(length, SMALL, value, -1), text_error(at))
        for action in (length, lengths, best_last):
            self.assertEqual(told(action, SMALL, [0, 4, 3]), symbol_error(4))
        self.assertEqual(told(length, SMALL, [0, 4, 3], None), symbol_error(4))
        for name, value in wrong_integers(0, 7).items():
            with self.subTest(name=name):
                self.assertEqual(told(length, SMALL, [0, 2], value), bound("last"))


class Extremes(unittest.TestCase):
    def test_examples(self):
        self.assertEqual(extremes(SMALL, 2), (4, 9))
        self.assertEqual(longest_text(SMALL, 2), [2, 2])
        self.assertEqual(extremes(Table([7, 8, 7, 8]), FAR), (FAR + 2, FAR + 2))

    def test_all_streams_of_small_tables(self):
        for spread in small_spreads():
            table = Table(spread)
            for many in some_many(spread):
                found = [(len(stream), text) for stream, text, _ in streams_of(spread, many)]
                least = min(bits for bits, _ in found)
                most = max(bits for bits, _ in found)
                self.assertEqual(extremes(table, many), (least, most))
                self.assertEqual(shortest_text(table, many), min(text for bits, text in found if bits == least))
                self.assertEqual(longest_text(table, many), min(text for bits, text in found if bits == most))

    def test_more_symbols(self):
        for spread in small_spreads() + [spread for spread in great_spreads() if len(spread) <= 64]:
            table = Table(spread)
            for many in (7, 50, 200):
                least, most = bounds_by_steps(spread, many)
                self.assertEqual(extremes(table, many), (least, most))
                for action, bits in ((shortest_text, least), (longest_text, most)):
                    text = action(table, many)
                    self.assertEqual(len(text), many)
                    self.assertIn(bits, lengths(table, text))

    def test_the_first_texts_of_drawn_tables(self):
        for seed in range(60):
            spread = drawn_spread(seed, 3 + seed % 2, 2 + seed % 3)
            found = [(len(stream), text) for stream, text, _ in streams_of(spread, 4)]
            least = min(bits for bits, _ in found)
            most = max(bits for bits, _ in found)
            self.assertEqual(shortest_text(Table(spread), 4), min(text for bits, text in found if bits == least))
            self.assertEqual(longest_text(Table(spread), 4), min(text for bits, text in found if bits == most))

    def test_numbers_behind_which_all_repeats(self):
        for spread in small_spreads()[::3] + [drawn_spread(seed, 4, 3) for seed in range(20)]:
            for many in (201, 999, 2345):
                self.assertEqual(extremes(Table(spread), many), bounds_by_steps(spread, many))

    def test_far_numbers(self):
        for spread in [spread for spread in small_spreads() if len(spread) <= 8][::4] + [SPREAD, [0] * 9 + [1] * 7]:
            for many in (FAR, FAR - 1, 10 ** 12 + 7):
                self.assertEqual(extremes(Table(spread), many), bounds_by_doubling(spread, many))
        for bits in range(1, 5):
            self.assertEqual(extremes(Table([3] * 2 ** bits), FAR), (bits, bits))
            every = Table(list(range(2 ** bits)))
            self.assertEqual(extremes(every, FAR), (bits + bits * FAR, bits + bits * FAR))

    def test_no_symbols(self):
        for spread in small_spreads():
            table = Table(spread)
            self.assertEqual(extremes(table, 0), (width_of(spread), width_of(spread)))
            self.assertEqual(shortest_text(table, 0), [])
            self.assertEqual(longest_text(table, 0), [])

    def test_kinds_of_the_results(self):
        self.assertEqual([type(extremes(SMALL, 9))] + [type(part) for part in extremes(SMALL, 9)], [tuple, int, int])
        for action in (shortest_text, longest_text):
            self.assertIs(type(action(SMALL, 5)), list)
            self.assertEqual({type(symbol) for symbol in action(SMALL, 5)}, {int})

    def test_errors(self):
        for action in (extremes, shortest_text, longest_text):
            for name, value in no_tables().items():
                with self.subTest(name=name):
                    self.assertEqual(told(action, value, 2), bound("table"))
                    self.assertEqual(told(action, value, None), bound("table"))
            for name, value in wrong_integers(0, FAR).items():
                with self.subTest(name=name):
                    self.assertEqual(told(action, SMALL, value), bound("many"))
                    self.assertEqual(told(action, Table([0, 1] * 64), value), bound("many"))

    def test_limits(self):
        for bits in range(7, 13):
            table = Table([0, 1] * 2 ** (bits - 1))
            for action in (extremes, shortest_text, longest_text):
                for many in (0, 1, 200, 201, FAR):
                    self.assertEqual(told(action, table, many), limit(64))
        for bits in (5, 6):
            table = Table([0, 1] * 2 ** (bits - 1))
            self.assertEqual(told(extremes, table, 201), limit(16))
            self.assertEqual(told(extremes, table, FAR), limit(16))
            self.assertIsNone(told(extremes, table, 200))
        for bits in range(1, 7):
            table = Table([0, 1] * 2 ** (bits - 1))
            for action in (shortest_text, longest_text):
                self.assertEqual(told(action, table, 201), limit(200))
                self.assertEqual(told(action, table, FAR), limit(200))
                self.assertIsNone(told(action, table, 200))
        for bits in range(1, 5):
            self.assertIsNone(told(extremes, Table([0, 1] * 2 ** (bits - 1)), 201))


class LengthCounts(unittest.TestCase):
    def test_example(self):
        self.assertEqual(length_counts(SMALL, 1), [(3, 2), (4, 6), (5, 8), (6, 8)])

    def test_all_streams_of_small_tables(self):
        for spread in small_spreads():
            for many in some_many(spread):
                found = [len(stream) for stream, _, _ in streams_of(spread, many)]
                expected = [(bits, found.count(bits)) for bits in sorted(set(found))]
                self.assertEqual(length_counts(Table(spread), many), expected)

    def test_facts(self):
        for spread in small_spreads() + great_spreads():
            table = Table(spread)
            for many in sorted({0, 1, 2, 3, 10, 2000 // len(spread)}):
                if len(spread) * many <= 2000:
                    found = length_counts(table, many)
                    self.assertEqual(sum(number for _, number in found), len(spread) * len(set(spread)) ** many)
                    self.assertEqual([bits for bits, _ in found], sorted({bits for bits, _ in found}))
                    self.assertTrue(all(number > 0 for _, number in found))
                    self.assertEqual((found[0][0], found[-1][0]), bounds_by_steps(spread, many))
                    if len(spread) <= 16 or len(spread) <= 64 and many <= 200:
                        self.assertEqual((found[0][0], found[-1][0]), extremes(table, many))

    def test_by_sums(self):
        for spread in (SPREAD, [0, 1, 1, 1], [2] + [1] * 15, drawn_spread(25, 4, 4)):
            many = 2000 // len(spread)
            rows = rows_of(spread)
            numbers = [{0: 1} for _ in spread]
            for _ in range(many):
                longer = []
                for _, bits, base in rows:
                    found = {}
                    for ahead in numbers[base:base + 2 ** bits]:
                        for cost, number in ahead.items():
                            found[cost + bits] = found.get(cost + bits, 0) + number
                    longer.append(found)
                numbers = longer
            total = {}
            for found in numbers:
                for cost, number in found.items():
                    total[cost + width_of(spread)] = total.get(cost + width_of(spread), 0) + number
            self.assertEqual(length_counts(Table(spread), many), sorted(total.items()))

    def test_kinds_of_the_result(self):
        found = length_counts(SMALL, 3)
        self.assertIs(type(found), list)
        self.assertEqual({type(row) for row in found}, {tuple})
        self.assertEqual({type(part) for row in found for part in row}, {int})

    def test_errors(self):
        for name, value in no_tables().items():
            with self.subTest(name=name):
                self.assertEqual(told(length_counts, value, 2), bound("table"))
                self.assertEqual(told(length_counts, value, -1), bound("table"))
        for name, value in wrong_integers(0, 10000).items():
            with self.subTest(name=name):
                self.assertEqual(told(length_counts, SMALL, value), bound("many"))
                self.assertEqual(told(length_counts, Table([0] * 4096), value), bound("many"))

    def test_limit(self):
        for bits in range(1, 13):
            table = Table([0, 1] * 2 ** (bits - 1))
            most = 2000 // 2 ** bits
            self.assertIsNone(told(length_counts, table, most))
            self.assertEqual(told(length_counts, table, most + 1), limit(2000))
            self.assertEqual(told(length_counts, table, 10000), limit(2000))


class OrderOfTexts(unittest.TestCase):
    def test_example(self):
        expected = [[0, 0], [1, 0], [0, 1], [2, 0], [0, 2], [1, 1], [1, 2], [2, 1], [2, 2]]
        self.assertEqual([text_at(SMALL, 2, number) for number in range(9)], expected)
        self.assertEqual([place_of(SMALL, text) for text in expected], list(range(9)))

    def test_all_texts_of_small_tables(self):
        for spread in small_spreads():
            table = Table(spread)
            for many in some_many(spread, 400):
                texts = {last: [] for last in range(len(spread))}
                for stream, text, last in streams_of(spread, many):
                    texts[last].append((len(stream), text))
                for last in range(len(spread)):
                    for number, (_, text) in enumerate(sorted(texts[last])):
                        self.assertEqual(text_at(table, many, number, last), text)
                        self.assertEqual(place_of(table, text, last), number)

    def test_last_is_0_if_it_is_not_told(self):
        for number in range(9):
            self.assertEqual(text_at(SMALL, 2, number), text_at(SMALL, 2, number, 0))
            text = text_at(SMALL, 2, number, 3)
            self.assertEqual(place_of(SMALL, text), place_of(SMALL, text, 0))
        self.assertNotEqual([text_at(SMALL, 2, number, 5) for number in range(9)],
                            [text_at(SMALL, 2, number) for number in range(9)])

    def test_each_is_the_other_one_turned_about(self):
        draw = random.Random(24)
        for spread in small_spreads()[::3] + great_spreads()[::3]:
            table = Table(spread)
            many = min(60, 2000 // len(spread))
            last = draw.randrange(len(spread))
            for number in {0, draw.randrange(len(set(spread)) ** many), len(set(spread)) ** many - 1}:
                text = text_at(table, many, number, last)
                self.assertEqual(place_of(table, text, last), number)
            text = drawn_text(draw.random(), spread, many)
            self.assertEqual(text_at(table, many, place_of(table, text, last), last), text)

    def test_as_many_symbols_as_can_be(self):
        for spread in ([0, 1], [4, 4], [0, 0, 0, 1], SPREAD):
            table = Table(spread)
            many = 2000 // len(spread)
            text = drawn_text(26, spread, many)
            place = place_of(table, text, 1)
            self.assertEqual(text_at(table, many, place, 1), text)
            most = len(set(spread)) ** many
            self.assertTrue(0 <= place < most)
            self.assertEqual(place_of(table, text_at(table, many, most - 1)), most - 1)

    def test_no_symbols(self):
        for spread in small_spreads() + great_spreads():
            self.assertEqual(text_at(Table(spread), 0, 0, 1), [])
            self.assertEqual(place_of(Table(spread), [], 1), 0)
            self.assertEqual(told(text_at, Table(spread), 0, 1), bound("number"))

    def test_kinds_of_the_results(self):
        self.assertIs(type(text_at(SMALL, 2, 3)), list)
        self.assertEqual({type(symbol) for symbol in text_at(SMALL, 2, 3)}, {int})
        self.assertIs(type(place_of(SMALL, [2, 0])), int)

    def test_errors_of_text_at(self):
        great = Table([0] * 4096)
        for name, value in no_tables().items():
            with self.subTest(name=name):
                self.assertEqual(told(text_at, value, 2, 3, 0), bound("table"))
                self.assertEqual(told(text_at, value, -1, -1, -1), bound("table"))
        for name, value in wrong_integers(0, 10000).items():
            with self.subTest(name=name):
                self.assertEqual(told(text_at, SMALL, value, 3), bound("many"))
                self.assertEqual(told(text_at, great, value, -1, -1), bound("many"))
        for name, value in wrong_integers(0, 7).items():
            with self.subTest(name=name):
                self.assertEqual(told(text_at, SMALL, 2, 3, value), bound("last"))
                # "last" comes ahead of the limit, and both of them ahead of "number".
                self.assertEqual(told(text_at, SMALL, 2, None, value), bound("last"))
                self.assertEqual(told(text_at, SMALL, 251, None, value), bound("last"))
        for name, value in wrong_integers(0, 8).items():
            with self.subTest(name=name):
                self.assertEqual(told(text_at, SMALL, 2, value), bound("number"))
                self.assertEqual(told(text_at, SMALL, 251, value, 7), limit(2000))
        self.assertEqual(told(text_at, SMALL, 250, 3 ** 250), bound("number"))
        self.assertIsNone(told(text_at, SMALL, 250, 3 ** 250 - 1))
        self.assertEqual(told(text_at, SMALL, 250, 10 ** 900), bound("number"))
        self.assertEqual(told(text_at, great, 1, 0), limit(2000))

    def test_errors_of_place_of(self):
        for name, value in no_tables().items():
            with self.subTest(name=name):
                self.assertEqual(told(place_of, value, [2, 0], 0), bound("table"))
                self.assertEqual(told(place_of, value, None, None), bound("table"))
        for name, (value, at) in wrong_texts().items():
            with self.subTest(name=name):
                self.assertEqual(told(place_of, SMALL, value), text_error(at))
                self.assertEqual(told(place_of, SMALL, value, -1), text_error(at))
        self.assertEqual(told(place_of, SMALL, [0, 3, 4], -1), symbol_error(3))
        self.assertEqual(told(place_of, SMALL, [0] * 251 + [3]), symbol_error(3))
        for name, value in wrong_integers(0, 7).items():
            with self.subTest(name=name):
                self.assertEqual(told(place_of, SMALL, [2, 0], value), bound("last"))
                self.assertEqual(told(place_of, SMALL, [2] * 251, value), bound("last"))
        self.assertEqual(told(place_of, SMALL, [2] * 251), limit(2000))
        self.assertIsNone(told(place_of, SMALL, [2] * 250))


class Means(unittest.TestCase):
    def test_example(self):
        self.assertEqual(means(SMALL), ((1, 2), (3, 1)))

    def test_all_rings_without_a_state_twice(self):
        spreads = [spread for spread in small_spreads() if len(spread) < 8 or len(set(spread)) < 3]
        spreads += [SPREAD] + [drawn_spread(seed, 3, 2 + seed % 2) for seed in range(12)]
        for spread in spreads:
            if len(spread) <= 8:
                found = rings_without_a_state_twice(spread)
                expected = tuple((mean.numerator, mean.denominator) for mean in (min(found), max(found)))
                self.assertEqual(means(Table(spread)), expected)

    def test_fact_with_the_lengths_of_long_texts(self):
        spreads = small_spreads() + [spread for spread in great_spreads() if len(spread) <= 64]
        for spread in spreads:
            table = Table(spread)
            bits = width_of(spread)
            least, most = [Fraction(*mean) for mean in means(table)]
            for many in (1, 40, 200):
                found = extremes(table, many)
                self.assertLessEqual(abs(found[0] - bits - many * least), len(spread) * bits)
                self.assertLessEqual(abs(found[1] - bits - many * most), len(spread) * bits)
            if len(spread) <= 16:
                found = extremes(table, FAR)
                self.assertLessEqual(abs(found[0] - bits - FAR * least), len(spread) * bits)
                self.assertLessEqual(abs(found[1] - bits - FAR * most), len(spread) * bits)

    def test_fractions_in_lowest_terms(self):
        for spread in small_spreads():
            for above, below in means(Table(spread)):
                self.assertEqual((Fraction(above, below).numerator, Fraction(above, below).denominator), (above, below))
                self.assertEqual((type(above), type(below)), (int, int))
            self.assertIs(type(means(Table(spread))), tuple)
        for bits in range(1, 7):
            self.assertEqual(means(Table([5] * 2 ** bits)), ((0, 1), (0, 1)))
            self.assertEqual(means(Table(list(range(2 ** bits)))), ((bits, 1), (bits, 1)))

    def test_64_states(self):
        # Unlike means of rings with at most 64 states differ by more than a 5000th part.
        for spread in ([0] * 63 + [1], [1] + [0] * 63, drawn_spread(27, 6, 5), drawn_spread(28, 6, 40), [0, 1] * 32):
            least, most = [Fraction(*mean) for mean in means(Table(spread))]
            self.assertFalse(has_ring_below(spread, 1, least))
            self.assertTrue(has_ring_below(spread, 1, least + Fraction(1, 5000)))
            self.assertFalse(has_ring_below(spread, -1, -most))
            self.assertTrue(has_ring_below(spread, -1, -most + Fraction(1, 5000)))

    def test_sums_that_do_not_repeat(self):
        # Rings apart from each other, with unlike means or of unlike lengths, as no table has them.
        for rings in (
            ((1, 2), (5, 1, 1)), ((3, 0), (1, 1, 1)), ((2, 2, 2), (1,)), ((0, 1), (1, 0, 1, 0), (0, 0, 1, 1, 0, 1)),
            ((1, 0, 0), (1, 0, 0, 0), (2, 0, 0, 0, 0)), ((4, 4), (3, 4, 5, 4), (9,)), ((-1, -2), (-5, -1, -1)), ((7,), (7, 7)),
            ((1, 0) * 2, (1, 1, 0, 0, 1, 0), (0, 0, 0, 1, 1) * 2, (1, 0, 1, 0, 1, 0, 0) * 2),
        ):
            hops = []
            for ring in rings:
                first = len(hops)
                for at, cost in enumerate(ring):
                    following = first + (at + 1) % len(ring)
                    hops.append((cost, following, following + 1))
            expected = min(Fraction(sum(ring), len(ring)) for ring in rings)
            self.assertEqual(least_mean(hops), (expected.numerator, expected.denominator))

    def test_drawn_tables_by_all_walks(self):
        # Karp's theorem for all states, apart from the program.
        for seed in range(60):
            spread = drawn_spread(seed, 1 + seed % 6, (2, 2, 3, 5, 9)[seed % 5] if seed % 6 else 2)
            rows = rows_of(spread)
            size = len(spread)
            found = []
            for sign in (1, -1):
                levels = [[0] * size]
                for _ in range(size):
                    ahead = levels[-1]
                    levels.append([sign * bits + min(ahead[base:base + 2 ** bits]) for _, bits, base in rows])
                slopes = [max(Fraction(levels[size][state] - levels[many][state], size - many) for many in range(size))
                          for state in range(size)]
                found.append(sign * min(slopes))
            expected = tuple((mean.numerator, mean.denominator) for mean in found)
            self.assertEqual(means(Table(spread)), expected)

    def test_errors(self):
        for name, value in no_tables().items():
            with self.subTest(name=name):
                self.assertEqual(told(means, value), bound("table"))
        for bits in range(1, 13):
            expected = None if bits <= 6 else limit(64)
            self.assertEqual(told(means, Table([0, 1] * 2 ** (bits - 1))), expected)


if __name__ == "__main__":
    unittest.main()
