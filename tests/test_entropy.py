"""Points 36 to 40: ideal lengths, means over drawn symbols, closed classes, and the least table."""

import random
import unittest
from fractions import Fraction

from spreadstates.counts import by_rests, numbers_of
from spreadstates.entropy import closed_classes, cost_part, gap_part, ideal_order, ideal_part, is_even
from spreadstates.entropy import least_table, mean_bits, mean_gap
from spreadstates.lengths import all_lengths, length
from spreadstates.spreads import spread_by_steps
from spreadstates.tables import Table
from tests.definitions import before_of, drawn_spread, great_spreads, rows_of, small_spreads
from tests.samples import SPREAD, bound, limit, symbol_error, text_error, told

SMALL = Table(SPREAD)
WEIGHTS = [(0, 5), (1, 2), (2, 1)]


def ideal_fraction(text):
    """The numerator and the denominator of N ** N / product of all n(s) ** n(s)."""
    below = 1
    for symbol in set(text):
        below *= text.count(symbol) ** text.count(symbol)
    return len(text) ** len(text), below


def is_part(above, below, parts, found):
    """Whether `found` is the logarithm of above / below in `parts`-th parts, rounded down, by powers."""
    return below ** parts << found <= above ** parts < below ** parts << (found + 1)


def drawn_texts(seed, many, longest=60):
    draw = random.Random(seed)
    for _ in range(many):
        symbols = [draw.randrange(1000) for _ in range(draw.choice((1, 2, 3, 5, 20)))]
        yield [draw.choice(symbols) for _ in range(draw.randrange(1, longest))]


def even_texts():
    """Texts whose ideal length is a whole number of bits."""
    return [[5], [5] * 9, [0, 1], [0, 1, 0, 1] * 3, [0, 0, 1, 2], [0, 0, 0, 0, 1, 1, 2, 3] * 2, list(range(16)), [7, 7, 8, 8]]


def chain_of(spread, weights):
    """For each state the tuples (chance, next state, bits) of writing a drawn symbol."""
    rows = rows_of(spread)
    total = sum(weight for _, weight in weights)
    chain = []
    for state in range(len(spread)):
        row = []
        for symbol, weight in weights:
            (place, bits, _), = before_of(rows, symbol, state)
            row.append((Fraction(weight, total), place, bits))
        chain.append(row)
    return chain


def reduced(rows):
    """Rows of equations in their reduced form, with the columns of the leading unknowns."""
    rows = [list(row) for row in rows]
    leads = []
    for column in range(len(rows[0]) - 1):
        pivot = next((at for at in range(len(leads), len(rows)) if rows[at][column] != 0), None)
        if pivot is None:
            continue
        here = len(leads)
        rows[here], rows[pivot] = rows[pivot], rows[here]
        rows[here] = [item / rows[here][column] for item in rows[here]]
        for at in range(len(rows)):
            if at != here and rows[at][column] != 0:
                factor = rows[at][column]
                rows[at] = [item - factor * other for item, other in zip(rows[at], rows[here])]
        leads.append(column)
    return rows, leads


def means_by_equations(spread, weights):
    """The means for all last states: g(x) is the mean of g behind x, and g(x) + h(x) the cost and the mean of h."""
    chain = chain_of(spread, weights)
    size = len(spread)
    equations = []
    for state, row in enumerate(chain):
        one = [Fraction(0)] * (2 * size + 1)
        two = [Fraction(0)] * (2 * size + 1)
        one[size + state] += 1
        two[size + state] += 1
        two[state] += 1
        for chance, place, bits in row:
            one[size + place] -= chance
            two[place] -= chance
            two[2 * size] += chance * bits
        equations += [one, two]
    rows, leads = reduced(equations)
    found = {}
    for row, column in zip(rows, leads):
        if column >= size:
            assert not any(row[column + 1:2 * size])
            found[column - size] = row[-1]
    return [found[state] for state in range(size)]


def mean_by_squaring(spread, weights, last):
    """The mean about, by many steps of a chain that stays half of the time."""
    chain = chain_of(spread, weights)
    size = len(spread)
    power = [[0.0] * size for _ in range(size)]
    for state, row in enumerate(chain):
        power[state][state] += 0.5
        for chance, place, _ in row:
            power[state][place] += float(chance) / 2
    for _ in range(16):
        columns = list(zip(*power))
        power = [[sum(one * other for one, other in zip(row, column)) for column in columns] for row in power]
        power = [[item / sum(row) for item in row] for row in power]
    costs = [sum(float(chance) * bits for chance, _, bits in row) for row in chain]
    return sum(share * cost for share, cost in zip(power[last], costs))


def classes_by_walking(spread, symbols):
    """The closed classes: states that all that they reach reaches again."""
    rows = rows_of(spread)
    behind = [{before_of(rows, symbol, state)[0][0] for symbol in symbols} for state in range(len(spread))]

    def reached(state):
        found = {state}
        todo = [state]
        while todo:
            for other in behind[todo.pop()] - found:
                found.add(other)
                todo.append(other)
        return found

    reach = [reached(state) for state in range(len(spread))]
    found = {tuple(sorted(reach[state])) for state in range(len(spread)) if all(state in reach[o] for o in reach[state])}
    return sorted(list(states) for states in found)


def some_weights(spread, seed):
    """Weights of all symbols and of some of them alone."""
    draw = random.Random(seed)
    symbols = sorted(set(spread))
    found = [[(symbol, spread.count(symbol)) for symbol in symbols], [(symbols[0], 3)], [(symbols[-1], 10 ** 30)]]
    found.append([(symbol, draw.randrange(1, 9)) for symbol in symbols])
    found.append([(symbol, draw.randrange(1, 10 ** 30)) for symbol in symbols])
    found.append([(symbol, draw.randrange(1, 5)) for symbol in sorted(draw.sample(symbols, (len(symbols) + 1) // 2))])
    return found


class Ideals(unittest.TestCase):
    def test_examples(self):
        self.assertEqual(ideal_order([1, 2, 1, 1], 4), 1)
        self.assertEqual(ideal_part([1, 2, 1, 1], 10), 32)
        self.assertEqual(cost_part(SMALL, [0, 1, 2], 1), 5)
        self.assertEqual(gap_part(SMALL, [0, 0, 1], 0, 10), 2)

    def test_order_by_powers(self):
        for text in list(drawn_texts(36, 60)) + even_texts():
            above, below = ideal_fraction(text)
            for bits in list(range(0, 12)) + [40, 100, 300]:
                there = below << bits
                self.assertEqual(ideal_order(text, bits), (there > above) - (there < above))

    def test_order_about_the_ideal_length(self):
        for text in drawn_texts(37, 60, 400):
            whole = ideal_part(text, 1)
            above, below = ideal_fraction(text)
            is_whole = below << whole == above
            self.assertEqual(ideal_order(text, whole), 0 if is_whole else -1)
            self.assertEqual(ideal_order(text, whole + 1), 1)
            if whole > 0:
                self.assertEqual(ideal_order(text, whole - 1), -1)

    def test_parts_by_powers(self):
        for text in list(drawn_texts(38, 60)) + even_texts():
            above, below = ideal_fraction(text)
            for parts in (1, 2, 3, 7, 10, 63, 64):
                self.assertTrue(is_part(above, below, parts, ideal_part(text, parts)))

    def test_even_texts(self):
        for text, bits in (([5], 0), ([5] * 9, 0), ([0, 1], 2), ([0, 0, 1, 2], 6), (list(range(16)), 64), ([0, 1] * 1000, 2000)):
            self.assertEqual(ideal_order(text, bits), 0)
            for parts in (1, 5, 64):
                self.assertEqual(ideal_part(text, parts), parts * bits)

    def test_the_empty_text(self):
        self.assertEqual([ideal_order([], bits) for bits in (0, 1, 100000)], [0, 1, 1])
        self.assertEqual([ideal_part([], 1), ideal_part([], 64), cost_part(SMALL, [], 64)], [0, 0, 0])
        self.assertEqual([gap_part(SMALL, [], last, 9) for last in range(8)], [0] * 8)

    def test_texts_of_2000_symbols(self):
        draw = random.Random(2000)
        texts = [[0] * 1999 + [1], [0, 1] * 1000, [draw.randrange(1000) for _ in range(2000)], [3] * 2000]
        texts.append([draw.randrange(7) * draw.randrange(2) for _ in range(2000)])
        for text in texts:
            above, below = ideal_fraction(text)
            for parts in (1, 64):
                self.assertTrue(is_part(above, below, parts, ideal_part(text, parts)))
            self.assertIsNone(told(ideal_order, text, 100000))
            self.assertEqual(told(ideal_order, text + [0], 5), limit(2000))
            self.assertEqual(told(ideal_part, text + [0], 5), limit(2000))
        table = Table([0] * 7 + [1])
        self.assertIsNone(told(cost_part, table, texts[0], 1))
        self.assertIsNone(told(gap_part, table, texts[0], 0, 1))
        self.assertEqual(told(cost_part, table, texts[0] + [1], 1), limit(2000))
        self.assertEqual(told(gap_part, table, texts[0] + [1], 7, 1), limit(2000))

    def test_errors_of_order(self):
        self.assertEqual(told(ideal_order, None, -1), text_error(-1))
        self.assertEqual(told(ideal_order, [0, 1000], -1), text_error(1))
        self.assertEqual(told(ideal_order, [0] * 10001, -1), text_error(10000))
        for bits in (-1, 100001, True, None, "4", [4]):
            self.assertEqual(told(ideal_order, [0], bits), bound("bits"))
            self.assertEqual(told(ideal_order, [0] * 3000, bits), bound("bits"))

    def test_errors_of_parts(self):
        self.assertEqual(told(ideal_part, {}, 0), text_error(-1))
        for parts in (0, -1, 65, True, None, "4", [4]):
            self.assertEqual(told(ideal_part, [0], parts), bound("parts"))
            self.assertEqual(told(ideal_part, [0] * 3000, parts), bound("parts"))


class Costs(unittest.TestCase):
    def test_parts_of_costs_by_powers(self):
        for spread in small_spreads()[::2] + great_spreads()[::4]:
            draw = random.Random(len(spread))
            table = Table(spread)
            for many in (1, 2, 5, 30):
                text = [draw.choice(spread) for _ in range(many)]
                above, below = 1, 1
                for symbol in text:
                    above *= len(spread)
                    below *= spread.count(symbol)
                for parts in (1, 3, 64):
                    self.assertTrue(is_part(above, below, parts, cost_part(table, text, parts)))
                    self.assertGreaterEqual(cost_part(table, text, parts), ideal_part(text, parts))

    def test_gaps_by_powers(self):
        below_0 = 0
        for spread in small_spreads()[::2] + great_spreads()[::6]:
            draw = random.Random(len(spread))
            table = Table(spread)
            for many in (1, 2, 5, 30):
                text = [draw.choice(spread) for _ in range(many)]
                above, below = ideal_fraction(text)
                for last in sorted({0, 1, len(spread) - 1}):
                    bits = length(table, text, last) - table.bits()
                    for parts in (1, 10, 64):
                        found = gap_part(table, text, last, parts)
                        # The ideal length is at most `most`-th parts, and more than one part less.
                        most = parts * bits - found
                        ratio = Fraction(above, below) ** parts
                        self.assertLessEqual(ratio, Fraction(2) ** most)
                        self.assertGreater(ratio, Fraction(2) ** (most - 1))
                        below_0 += found < 0
        self.assertGreater(below_0, 10)

    def test_gaps_below_0(self):
        # The symbol costs no bits here from the state 3 on, although there are two of them in the text.
        table = Table([0] * 7 + [1])
        text = [1, 0, 0, 0]
        for last in range(8):
            found = gap_part(table, text, last, 64)
            expected = 64 * (length(table, text, last) - 3) - ideal_part(text, 64) - 1
            self.assertEqual(found, expected)
        self.assertEqual(min(gap_part(table, text, last, 64) for last in range(8)), 64 * 3 - ideal_part(text, 64) - 1)
        self.assertLess(gap_part(table, text, 0, 64), 0)
        self.assertEqual(gap_part(Table([0, 1]), [0, 1, 0, 1], 0, 5), 0)
        self.assertEqual(gap_part(Table([0, 0, 0, 1]), [1, 0, 1, 0], 0, 1), length(Table([0, 0, 0, 1]), [1, 0, 1, 0]) - 2 - 4)

    def test_errors(self):
        for action, more in ((cost_part, (0,)), (gap_part, (-1, 0))):
            self.assertEqual(told(action, None, None, *more), bound("table"))
            self.assertEqual(told(action, SMALL, None, *more), text_error(-1))
            self.assertEqual(told(action, SMALL, [0, 3, -1], *more), text_error(2))
            self.assertEqual(told(action, SMALL, [0, 3, 4], *more), symbol_error(3))
        self.assertEqual(told(gap_part, SMALL, [0], 8, 0), bound("last"))
        self.assertEqual(told(gap_part, SMALL, [0] * 2001, 8, 1), bound("last"))
        for parts in (0, 65, True, None):
            self.assertEqual(told(gap_part, SMALL, [0] * 2001, 7, parts), bound("parts"))
            self.assertEqual(told(cost_part, SMALL, [0] * 2001, parts), bound("parts"))


class Means(unittest.TestCase):
    def test_example(self):
        self.assertEqual(mean_bits(SMALL, WEIGHTS, 0), (49597, 37648))

    def test_against_equations(self):
        for at, spread in enumerate(small_spreads()):
            if len(spread) < 16 or at % 2 == 0:
                for weights in some_weights(spread, at):
                    expected = means_by_equations(spread, weights)
                    for last in range(len(spread)):
                        found = mean_bits(Table(spread), weights, last)
                        self.assertEqual(found, (expected[last].numerator, expected[last].denominator))

    def test_several_closed_classes_and_states_outside(self):
        seen = set()
        for seed in range(700):
            spread = drawn_spread(seed, 2 + seed % 3, 2 + seed % 3)
            draw = random.Random(seed)
            symbols = sorted(draw.sample(sorted(set(spread)), draw.randrange(1, min(3, len(set(spread)) + 1))))
            classes = classes_by_walking(spread, symbols)
            inside = {state for states in classes for state in states}
            kind = (len(classes) > 1, len(inside) < len(spread), len(symbols) > 1)
            if kind[0] and (kind not in seen or seed < 250):
                seen.add(kind)
                weights = [(symbol, draw.randrange(1, 9)) for symbol in symbols]
                expected = means_by_equations(spread, weights)
                for last in range(len(spread)):
                    found = mean_bits(Table(spread), weights, last)
                    self.assertEqual(found, (expected[last].numerator, expected[last].denominator))
        self.assertIn((True, True, False), seen)

    def test_ways_into_several_classes(self):
        # From some states, two or three symbols lead into several classes.
        spreads = [
            ([3, 3, 1, 4, 1, 0, 0, 3, 0, 2, 1, 1, 2, 3, 0, 4], [0, 3, 4]),
            ([0, 0, 0, 0, 2, 2, 1, 2] + [0, 0, 0, 1, 1, 1, 2, 1], [1, 2]),
            ([1, 0, 1, 1, 2, 2, 1, 0, 0, 1, 1, 1, 1, 0, 2, 2], [0, 1]), ([1, 1, 1, 1, 0, 1, 1, 3, 3, 0, 0, 0, 0, 1, 1, 1], [0, 3]),
            ([300, 300, 928, 41, 41, 300, 300, 928], [41, 300]), ([140, 305, 305, 140], [140, 305]),
        ]
        for spread, symbols in spreads:
            self.assertGreater(len(closed_classes(Table(spread), symbols)), 1)
            for seed in range(4):
                draw = random.Random(seed)
                weights = [(symbol, draw.randrange(1, 10 ** (9 * seed + 1))) for symbol in symbols]
                expected = means_by_equations(spread, weights)
                for last in range(len(spread)):
                    found = mean_bits(Table(spread), weights, last)
                    self.assertEqual(found, (expected[last].numerator, expected[last].denominator))

    def test_32_states(self):
        for seed in range(6):
            spread = drawn_spread(seed, 5, 2 + 3 * seed)
            for weights in some_weights(spread, seed)[::2]:
                for last in (0, 31):
                    above, below = mean_bits(Table(spread), weights, last)
                    self.assertAlmostEqual(above / below, mean_by_squaring(spread, weights, last), 7)

    def test_great_weights(self):
        spread = drawn_spread(5, 5, 30)
        weights = [(symbol, 10 ** 30 - symbol) for symbol in sorted(set(spread))]
        above, below = mean_bits(Table(spread), weights, 3)
        self.assertAlmostEqual(above / below, mean_by_squaring(spread, weights, 3), 7)
        times = [(symbol, 10 ** 29 * number) for symbol, number in WEIGHTS]
        self.assertEqual(mean_bits(SMALL, times, 4), mean_bits(SMALL, WEIGHTS, 4))

    def test_one_symbol(self):
        for bits in range(1, 6):
            for last in range(2 ** bits):
                self.assertEqual(mean_bits(Table([4] * 2 ** bits), [(4, 7)], last), (0, 1))

    def test_wrong_weights(self):
        for weights in (
            None, [], [(3, 1)], [(0, 5), (3, 1)], [(1, 2), (0, 5)], [(0, 0)], [(0, 10 ** 30 + 1)], ((0, 1),), [[0, 1]],
            [(0, True)], [(False, 1)], {0: 1}, [(0, 1), (1, 1), (2, 1), (3, 1)], [(0, 1), (0, 1)], [0], [(0, 1, 1)],
        ):
            self.assertEqual(told(mean_bits, SMALL, weights, -1), bound("weights"))
            self.assertEqual(told(mean_gap, SMALL, weights, -1, 0), bound("weights"))
            if weights != [0]:
                self.assertEqual(told(closed_classes, SMALL, weights), bound("symbols"))

    def test_errors_in_their_order(self):
        great = Table([0] * 63 + [1])
        for action, more in ((mean_bits, ()), (mean_gap, (0,))):
            self.assertEqual(told(action, [0, 1], [(0, 0)], -1, *more), bound("table"))
            self.assertEqual(told(action, great, [(2, 1)], -1, *more), bound("weights"))
            self.assertEqual(told(action, great, [(1, 1)], 64, *more), bound("last"))
        self.assertEqual(told(mean_bits, great, [(1, 1)], 63), limit(32))
        self.assertEqual(told(mean_gap, great, [(1, 500)], 63, 17), bound("parts"))
        self.assertEqual(told(mean_gap, great, [(1, 500)], 63, 16), limit(32))
        self.assertEqual(told(mean_gap, SMALL, [(1, 201)], 7, 16), limit(200))
        self.assertEqual(told(mean_gap, SMALL, [(0, 1), (1, 200)], 7, 16), limit(200))
        self.assertIsNone(told(mean_gap, SMALL, [(0, 1), (1, 199)], 7, 16))
        self.assertIsNone(told(mean_bits, Table([0] * 31 + [1]), [(1, 500)], 31))
        for parts in (0, 17, True, None, [1]):
            self.assertEqual(told(mean_gap, SMALL, WEIGHTS, 0, parts), bound("parts"))

    def test_kinds(self):
        found = mean_bits(SMALL, WEIGHTS, 0)
        self.assertEqual([type(found)] + [type(part) for part in found], [tuple, int, int])
        self.assertIs(type(mean_gap(SMALL, WEIGHTS, 0, 3)), int)


class Classes(unittest.TestCase):
    def test_example(self):
        self.assertEqual(closed_classes(Table([0, 1]), [0]), [[0]])

    def test_against_walking(self):
        several = 0
        for at, spread in enumerate(small_spreads() + [drawn_spread(seed, 1 + seed % 5, 3) for seed in range(80)]):
            symbols = sorted(set(spread))
            if len(spread) > 1:
                for some in [symbols] + [[symbol] for symbol in symbols] + [symbols[:2], symbols[-2:]]:
                    found = closed_classes(Table(spread), some)
                    self.assertEqual(found, classes_by_walking(spread, some))
                    several += len(found) > 1
        self.assertGreater(several, 20)

    def test_one_symbol(self):
        self.assertEqual(closed_classes(Table([4] * 32), [4]), [[state] for state in range(32)])

    def test_errors(self):
        self.assertEqual(told(closed_classes, None, [9]), bound("table"))
        great = Table([0] * 63 + [1])
        for symbols in (None, [], (0,), [3], [0, 3], [1, 0], [0, 0], [True], [False], [[0]], [None], {0: 1}, [-1], [1000]):
            self.assertEqual(told(closed_classes, SMALL, symbols), bound("symbols"))
            self.assertEqual(told(closed_classes, great, symbols), bound("symbols"))
        self.assertEqual(told(closed_classes, great, [0, 1]), limit(32))
        self.assertIsNone(told(closed_classes, Table([0] * 31 + [1]), [0, 1]))


class Gaps(unittest.TestCase):
    def test_example(self):
        self.assertEqual(mean_gap(SMALL, WEIGHTS, 0, 16), 0)

    def bounds(self, spread, weights, last, parts):
        """The least and the greatest gap, with the entropy between two bounds by powers."""
        total = sum(weight for _, weight in weights)
        above, below = total ** total, 1
        for _, weight in weights:
            below *= weight ** weight
        whole = 64
        times = (above ** whole // below ** whole).bit_length() - 1
        mean = Fraction(*mean_bits(Table(spread), weights, last))
        exact = below ** whole << times == above ** whole
        high = Fraction(times if exact else times + 1, whole * total)
        return (parts * (mean - high)).__floor__(), (parts * (mean - Fraction(times, whole * total))).__floor__()

    def test_against_bounds(self):
        sure = 0
        tries = 0
        for at, spread in enumerate(small_spreads()[::2] + [drawn_spread(seed, 4, 3) for seed in range(15)]):
            for weights in some_weights(spread, at):
                if sum(weight for _, weight in weights) <= 200:
                    for last in (0, len(spread) - 1):
                        for parts in (1, 16):
                            least, most = self.bounds(spread, weights, last, parts)
                            found = mean_gap(Table(spread), weights, last, parts)
                            self.assertLessEqual(least, found)
                            self.assertLessEqual(found, most)
                            self.assertGreaterEqual(found, 0)
                            sure += least == most
                            tries += 1
        self.assertGreater(sure * 10, tries * 8)

    def test_gaps_that_are_not_0(self):
        self.assertEqual(mean_gap(SMALL, [(2, 1)], 0, 1), 3)
        self.assertEqual(mean_gap(SMALL, [(2, 200)], 5, 16), 48)
        self.assertEqual(mean_gap(Table([0, 1]), [(0, 1)], 0, 7), 7)
        self.assertEqual(mean_gap(Table([0, 1, 2, 3]), [(0, 1), (1, 1)], 0, 7), 7)
        # The mean is 2, the entropy log2(3), about 1.585.
        self.assertEqual([mean_gap(Table([0, 1, 2, 3]), [(0, 5), (1, 5), (2, 5)], 0, parts) for parts in (1, 2, 3, 5, 16)],
                         [0, 0, 1, 2, 6])

    def test_even_tables_cost_the_entropy(self):
        for spread in ([0, 1], [0, 0, 1, 2], [2, 0, 1, 0], [0, 1, 2, 3, 4, 5, 6, 7], [0, 1, 1, 2, 2, 2, 2, 3] * 2, [5, 5]):
            weights = [(symbol, spread.count(symbol)) for symbol in sorted(set(spread))]
            even = is_even(Table(spread))
            for last in range(len(spread)):
                for parts in (1, 7, 16):
                    if even:
                        self.assertEqual(mean_gap(Table(spread), weights, last, parts), 0)
                        mean = Fraction(*mean_bits(Table(spread), weights, last))
                        expected = sum(Fraction(weight, len(spread)) * (len(spread) // weight).bit_length()
                                       for _, weight in weights) - 1
                        self.assertEqual(mean, expected)
        self.assertEqual(is_even(Table([0, 0, 0, 1, 1, 2, 2, 2])), False)

    def test_is_even_against_all_states(self):
        for spread in small_spreads() + great_spreads():
            rows = rows_of(spread)
            expected = len({(symbol, bits) for symbol, bits, _ in rows}) == len(set(spread))
            self.assertIs(is_even(Table(spread)), expected)
            powers = all(spread.count(symbol) & (spread.count(symbol) - 1) == 0 for symbol in set(spread))
            self.assertEqual(expected, powers)
        self.assertEqual(told(is_even, [0, 1]), bound("table"))


class LeastTables(unittest.TestCase):
    def expected(self, text, extra, most):
        above, below = ideal_fraction(text)
        numbers = numbers_of(text)
        for bits in range(1, most + 1):
            if len(numbers) <= 2 ** bits:
                table = Table(spread_by_steps(by_rests(numbers, bits)))
                cost = min(all_lengths(table, text)) - bits
                if below << max(0, cost - extra) <= above:
                    return bits
        return None

    def test_example(self):
        self.assertEqual(least_table([0, 0, 0, 1], 0, 8), 2)

    def test_against_all_tables(self):
        seen = set()
        for text in list(drawn_texts(40, 100)) + even_texts():
            for extra in (0, 1, 2, 5, 30, 1000):
                for most in (1, 3, 6, 7):
                    found = least_table(text, extra, most)
                    self.assertEqual(found, self.expected(text, extra, most))
                    seen.add(found)
        self.assertGreaterEqual(seen, {None, 1, 2, 3, 4, 5, 6})

    def test_long_texts(self):
        draw = random.Random(40)
        for text in ([0] * 1999 + [1], [0] * 2000, [draw.randrange(5) * draw.randrange(2) for _ in range(2000)]):
            for extra in (0, 8):
                self.assertEqual(least_table(text, extra, 10), self.expected(text, extra, 10))
            self.assertEqual(told(least_table, text + [0], 0, 10), limit(2000))

    def test_fewer_states_than_symbols(self):
        self.assertIsNone(least_table([0, 1, 2], 1000, 1))
        self.assertEqual(least_table([0, 1, 2], 1000, 2), 2)
        self.assertIsNone(least_table(list(range(1000)) * 2, 1000, 9))
        self.assertEqual(least_table(list(range(1000)), 1000, 10), 10)

    def test_errors(self):
        self.assertEqual(told(least_table, [], -1, 0), text_error(0))
        self.assertEqual(told(least_table, [0, None], -1, 0), text_error(1))
        self.assertEqual(told(least_table, (0,), -1, 0), text_error(-1))
        for extra in (-1, 1001, True, None, "0"):
            self.assertEqual(told(least_table, [0] * 2001, extra, 0), bound("extra"))
        for most in (0, 11, True, None, "0"):
            self.assertEqual(told(least_table, [0] * 2001, 1000, most), bound("most"))


if __name__ == "__main__":
    unittest.main()
