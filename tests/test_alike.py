"""Points 56 to 58: states and tables that do alike, and tables under other names."""

import itertools
import random
import unittest

from spreadstates.alike import alike_classes, are_alike, first_apart, partner, renamed, renaming, written_apart
from spreadstates.lengths import length, lengths
from spreadstates.tables import Table
from tests.definitions import before_of, cost_by_definition, drawn_spread, great_spreads, rows_of, small_spreads
from tests.definitions import texts_of, width_of, write_by_definition
from tests.samples import SPREAD, bound, limit, no_tables, told, wrong_integers, wrong_items, wrong_lists

SMALL = Table(SPREAD)


def backs_of(spread):
    """For each state, a dict of symbols with (next state, bits, number) of writing."""
    rows = rows_of(spread)
    return [{symbol: before_of(rows, symbol, state)[0] for symbol in sorted(set(spread))} for state in range(len(spread))]


def parted_states(spreads):
    """The numbers of the classes of the states (table, state), parted round by round."""
    backs = {(at, state): row for at, spread in enumerate(spreads) for state, row in enumerate(backs_of(spread))}
    groups = {key: 0 for key in backs}
    while True:
        signs = {}
        for (at, state), row in backs.items():
            signs[at, state] = (groups[at, state], tuple((s, row[s][1], groups[at, row[s][0]]) for s in sorted(row)))
        names = sorted(set(signs.values()))
        found = {key: names.index(signs[key]) for key in signs}
        if len(set(found.values())) == len(set(groups.values())):
            return found
        groups = found


def texts_from_behind(symbols, many):
    """All texts of so many symbols, ordered from their last symbol on."""
    return [list(text)[::-1] for text in itertools.product(symbols, repeat=many)]


def bits_written(spread, text, last):
    return write_by_definition(spread, text, last)[width_of(spread):]


def apart_by_definition(told_of, symbols, most):
    """The first text that is told apart; `told_of` has what is told of a text for both states."""
    for many in range(most + 1):
        for text in texts_from_behind(symbols, many):
            one, other = told_of(text)
            if one != other:
                return text
    return None


def pairs():
    """Pairs of spreads with the same symbols, also of unlike sizes."""
    found = [(SPREAD, SPREAD), ([0, 1], [0, 0, 1, 1]), ([0, 1], [0, 1, 1, 0, 1, 0, 1, 0]), ([0, 0, 1, 2], [2, 0, 1, 0])]
    found += [([0, 0, 0, 1], [0, 1, 0, 0]), ([0, 0, 0, 1], [0, 0, 1, 1]), ([0, 1, 2, 2], [0, 1, 1, 2, 2, 2, 2, 0])]
    found += [([7] * 4, [7] * 2), (SPREAD, [0, 1, 0, 2, 0, 0, 1, 0]), (SPREAD, SPREAD[::-1]), ([3, 4] * 8, [3] * 8 + [4] * 8)]
    draw = random.Random(56)
    for seed in range(20):
        spread = drawn_spread(seed, 2 + seed % 3, 2 + seed % 2)
        other = list(spread)
        draw.shuffle(other)
        found.append((spread, other))
    return found


class Classes(unittest.TestCase):
    def test_examples(self):
        self.assertEqual(alike_classes(SMALL), [[0], [1], [2, 3], [4, 5], [6, 7]])
        self.assertEqual(first_apart(SMALL, 0, SMALL, 2), [0])

    def test_against_parting(self):
        for spread in small_spreads() + [drawn_spread(seed, 5, 4) for seed in range(8)]:
            numbers = parted_states([spread])
            classes = {}
            for state in range(len(spread)):
                classes.setdefault(numbers[0, state], []).append(state)
            self.assertEqual(alike_classes(Table(spread)), sorted(classes.values()))

    def test_against_all_texts(self):
        for spread in small_spreads():
            if len(spread) < 16 and len(set(spread)) < 5:
                symbols = sorted(set(spread))
                # Texts of as many symbols as there are states tell apart all that is not alike.
                most = min(len(spread), 7 if len(symbols) < 3 else 4)
                texts = [text for many in range(most + 1) for text in texts_from_behind(symbols, many)]
                costs = [tuple(lengths(Table(spread), text)[state] for text in texts) for state in range(len(spread))]
                classes = {}
                for state, row in enumerate(costs):
                    classes.setdefault(row, []).append(state)
                self.assertEqual(alike_classes(Table(spread)), sorted(classes.values()))

    def test_one_symbol_and_even_tables(self):
        self.assertEqual(alike_classes(Table([4] * 64)), [list(range(64))])
        self.assertEqual(alike_classes(Table(list(range(64)))), [list(range(64))])
        self.assertEqual(alike_classes(Table([0, 1] * 32)), [list(range(64))])

    def test_errors(self):
        for value in no_tables().values():
            self.assertEqual(told(alike_classes, value), bound("table"))
        self.assertEqual(told(alike_classes, Table([0] * 128)), limit(64))
        self.assertIsNone(told(alike_classes, Table([0] * 63 + [1])))


class Apart(unittest.TestCase):
    def test_against_all_texts(self):
        for spread, other in pairs():
            symbols = sorted(set(spread))
            if sorted(set(other)) != symbols:
                continue
            numbers = parted_states([spread, other])
            for last in range(0, len(spread), 1 + len(spread) // 5):
                for other_last in range(0, len(other), 1 + len(other) // 5):
                    found = first_apart(Table(spread), last, Table(other), other_last)
                    if numbers[0, last] == numbers[1, other_last]:
                        self.assertIsNone(found)
                        continue
                    costs = lambda text: (cost_by_definition(spread, text, last), cost_by_definition(other, text, other_last))
                    self.assertIsNotNone(found)
                    if len(symbols) ** len(found) < 300:
                        self.assertEqual(found, apart_by_definition(costs, symbols, len(found)))
                    self.assertNotEqual(*costs(found))

    def test_long_texts(self):
        # Nothing but many symbols in a row tells these states apart.
        spread = [0] * 63 + [1]
        numbers = parted_states([spread])
        for last, other in ((0, 1), (0, 62), (30, 31), (5, 6)):
            self.assertNotEqual(numbers[0, last], numbers[0, other])
            found = first_apart(Table(spread), last, Table(spread), other)
            self.assertNotEqual(length(Table(spread), found, last), length(Table(spread), found, other))
            for shorter in range(len(found)):
                self.assertEqual(length(Table(spread), found[len(found) - shorter:], last),
                                 length(Table(spread), found[len(found) - shorter:], other))
        self.assertGreater(len(first_apart(Table(spread), 0, Table(spread), 1)), 20)

    def test_the_last_symbols_count_first(self):
        # Of equally short texts, that one is told whose last symbol is least, then the symbol ahead of it.
        seen = 0
        for seed in range(60):
            spread = drawn_spread(seed, 4, 3)
            symbols = sorted(set(spread))
            if len(symbols) == 3:
                for last, other in ((0, 1), (2, 9), (5, 6), (8, 15), (3, 4)):
                    costs = lambda text: (cost_by_definition(spread, text, last), cost_by_definition(spread, text, other))
                    found = first_apart(Table(spread), last, Table(spread), other)
                    if found is not None and len(found) in (2, 3):
                        self.assertEqual(found, apart_by_definition(costs, symbols, 3))
                        seen += found != sorted(found)
        self.assertGreater(seen, 3)

    def test_errors_in_their_order(self):
        great = Table([0] * 126 + [1, 2])
        for value in no_tables().values():
            self.assertEqual(told(first_apart, value, -1, None, -1), bound("table"))
            self.assertEqual(told(first_apart, great, 0, value, -1), bound("other"))
            self.assertEqual(told(partner, value, -1, None), bound("table"))
            self.assertEqual(told(partner, great, 0, value), bound("other"))
            self.assertEqual(told(are_alike, value, None), bound("table"))
            self.assertEqual(told(are_alike, great, value), bound("other"))
        for value in wrong_integers(0, 7).values():
            self.assertEqual(told(first_apart, SMALL, value, None, -1), bound("last"))
            self.assertEqual(told(partner, SMALL, value, None), bound("last"))
            self.assertEqual(told(first_apart, great, 0, SMALL, value), bound("other_last"))
        for other in (Table([0, 1]), Table([0, 1, 2, 3]), Table([0, 0, 0, 3])):
            self.assertEqual(told(first_apart, SMALL, 0, other, -1), bound("other"))
            self.assertEqual(told(partner, SMALL, 0, other), bound("other"))
            self.assertEqual(told(are_alike, SMALL, other), bound("other"))
        for one, other in ((great, SMALL), (SMALL, great), (great, great)):
            self.assertEqual(told(first_apart, one, 0, other, 0), limit(64))
            self.assertEqual(told(partner, one, 0, other), limit(64))
            self.assertEqual(told(are_alike, one, other), limit(64))
        self.assertIsNone(told(are_alike, Table([0] * 62 + [1, 2]), Table([0] * 62 + [2, 1])))


class Partners(unittest.TestCase):
    def test_example(self):
        self.assertIs(are_alike(Table([0, 1]), Table([0, 0, 1, 1])), True)

    def test_against_parting(self):
        answers = set()
        for spread, other in pairs():
            if set(spread) == set(other):
                numbers = parted_states([spread, other])
                here = [numbers[0, state] for state in range(len(spread))]
                there = [numbers[1, state] for state in range(len(other))]
                for last in range(len(spread)):
                    expected = there.index(here[last]) if here[last] in there else None
                    self.assertEqual(partner(Table(spread), last, Table(other)), expected)
                    answers.add(expected is None)
                self.assertIs(are_alike(Table(spread), Table(other)), set(here) == set(there))
                self.assertIs(are_alike(Table(other), Table(spread)), set(here) == set(there))
                answers.add(("all", set(here) == set(there)))
        self.assertEqual(answers, {True, False, ("all", True), ("all", False)})

    def test_one_way_alone(self):
        # There are tables of which each state has a partner in the other one, but not the other way round.
        for one, other in itertools.combinations(small_spreads(), 2):
            if set(one) == set(other) and len(one) + len(other) <= 16:
                here = [partner(Table(one), last, Table(other)) for last in range(len(one))]
                there = [partner(Table(other), last, Table(one)) for last in range(len(other))]
                self.assertIs(are_alike(Table(one), Table(other)), None not in here + there)

    def test_powers_of_two(self):
        draw = random.Random(57)
        for spread in ([0, 1], [0, 0, 1, 2], [0, 1, 2, 3, 4, 5, 6, 6], [0] * 8 + [1] * 4 + [2, 2, 3, 4], [9] * 4):
            other = list(spread)
            draw.shuffle(other)
            self.assertTrue(are_alike(Table(spread), Table(other)))
            more = spread * 2
            draw.shuffle(more)
            self.assertTrue(are_alike(Table(spread), Table(more)))
            self.assertEqual(partner(Table(more), len(more) - 1, Table(spread)), 0)
        self.assertTrue(are_alike(Table([7] * 64), Table([7, 7])))

    def test_kinds(self):
        self.assertIs(type(partner(SMALL, 3, SMALL)), int)
        self.assertEqual(partner(SMALL, 3, SMALL), 2)
        self.assertIs(are_alike(SMALL, Table([0, 0, 1, 2])), False)


class Names(unittest.TestCase):
    def test_examples(self):
        self.assertEqual(renamed(Table([0, 0, 5, 0]), [7, 3]).spread(), [7, 7, 3, 7])
        self.assertEqual(renaming(Table([0, 1]), Table([9, 4])), [9, 4])
        self.assertIsNone(renaming(Table([0, 1]), Table([2, 2])))
        self.assertEqual(written_apart(SMALL, 2, 3), [0])

    def test_renamed(self):
        draw = random.Random(58)
        for spread in small_spreads() + great_spreads()[::3]:
            symbols = sorted(set(spread))
            names = draw.sample(range(1000), len(symbols))
            table = renamed(Table(spread), names)
            self.assertEqual(table.spread(), [names[symbols.index(symbol)] for symbol in spread])
            self.assertEqual(renaming(Table(spread), table), names)
            back = renaming(table, Table(spread))
            self.assertEqual(renamed(table, back), Table(spread))
            text = [draw.choice(spread) for _ in range(min(20, 200000 // len(spread)))]
            other = [names[symbols.index(symbol)] for symbol in text]
            self.assertEqual(lengths(Table(spread), text), lengths(table, other))

    def test_all_renamings_of_small_tables(self):
        spreads = [list(spread) for spread in itertools.product((0, 1, 2), repeat=4)]
        for one in spreads[::2]:
            for other in spreads:
                names = [named for named in itertools.permutations(sorted(set(other)), len(set(one)))
                         if [named[sorted(set(one)).index(symbol)] for symbol in one] == other]
                found = renaming(Table(one), Table(other))
                self.assertEqual(found, list(names[0]) if names else None)

    def test_unlike_sizes(self):
        self.assertIsNone(renaming(Table([0, 1]), Table([0, 1, 0, 1])))
        self.assertIsNone(renaming(Table([0, 1, 0, 1]), Table([0, 1])))

    def test_wrong_names(self):
        wrong = [[], [1], [1, 2, 3, 4], [1, 1, 2], [1, 2, 1000], [1, 2, -1], [1, 2, True], [1, 2, None], (1, 2, 3), "abc"]
        wrong += [{0: 1, 1: 2, 2: 3}, None, 3, [[1], 2, 3], [1, 2, "3"]] + list(wrong_lists().values())
        wrong += [[5, 6, item] for item in wrong_items().values()]
        for value in wrong:
            self.assertEqual(told(renamed, SMALL, value), bound("names"))
        for value in no_tables().values():
            self.assertEqual(told(renamed, value, None), bound("table"))
            self.assertEqual(told(renaming, value, None), bound("table"))
            self.assertEqual(told(renaming, SMALL, value), bound("other"))
        self.assertIsNone(told(renamed, Table(list(range(1000)) + [0] * 3096), list(range(999, -1, -1))))

    def test_written_apart(self):
        nothing = 0
        for spread in small_spreads() + [drawn_spread(seed, 3, 3) for seed in range(10)]:
            symbols = sorted(set(spread))
            for last in range(0, len(spread), 1 + len(spread) // 8):
                for other in range(0, len(spread), 1 + len(spread) // 8):
                    found = written_apart(Table(spread), last, other)
                    bits = lambda text: (bits_written(spread, text, last), bits_written(spread, text, other))
                    most = 3 if found is None else len(found)
                    if len(symbols) ** most < 300:
                        self.assertEqual(found, apart_by_definition(bits, symbols, most))
                    if found is not None:
                        self.assertNotEqual(*bits(found))
                    nothing += found is None and last != other
        self.assertGreater(nothing, 5)

    def test_written_apart_of_equal_states_and_one_symbol(self):
        for last in range(8):
            self.assertIsNone(written_apart(SMALL, last, last))
            self.assertIsNone(written_apart(Table([7] * 8), last, 0))

    def test_written_apart_errors(self):
        great = Table([0] * 127 + [1])
        for value in no_tables().values():
            self.assertEqual(told(written_apart, value, -1, -1), bound("table"))
        for value in wrong_integers(0, 127).values():
            self.assertEqual(told(written_apart, great, value, -1), bound("last"))
            self.assertEqual(told(written_apart, great, 127, value), bound("other_last"))
        self.assertEqual(told(written_apart, great, 0, 0), limit(64))

    def test_texts_in_the_definitions(self):
        self.assertEqual(texts_from_behind([0, 1], 2), [[0, 0], [1, 0], [0, 1], [1, 1]])
        self.assertEqual(sorted(texts_from_behind([0, 1, 2], 2)), texts_of([0, 1, 2], 2))


if __name__ == "__main__":
    unittest.main()
