"""Points 12 to 15: tables, their rows, the ways back, and tables of rows."""

import copy
import random
import unittest

from spreadstates.spreads import spread_by_shares, spread_by_steps
from spreadstates.tables import Table, table_of_rows
from tests.definitions import before_of, great_spreads, rows_of, small_spreads
from tests.samples import SPREAD, bound, drawn_counts, spread_error, symbol_error, told
from tests.samples import wrong_integers, wrong_items, wrong_lists


def counts_by_definition(spread):
    return [(symbol, spread.count(symbol)) for symbol in sorted(set(spread))]


def sizes_that_are_none():
    """Lengths of lists that are no numbers of states."""
    return [0, 1, 3, 5, 6, 7, 9, 12, 15, 17, 31, 33, 100, 1000, 2047, 2049, 4095, 4097, 6144, 8192, 16384, 100000]


class Tables(unittest.TestCase):
    def test_what_was_passed(self):
        for spread in small_spreads() + great_spreads():
            with self.subTest(size=len(spread), many=len(set(spread))):
                table = Table(spread)
                self.assertEqual(table.spread(), spread)
                self.assertEqual(table.size(), len(spread))
                self.assertEqual(2 ** table.bits(), len(spread))
                self.assertEqual(table.counts(), counts_by_definition(spread))

    def test_all_sizes(self):
        for bits in range(1, 13):
            table = Table([7] * 2 ** bits)
            self.assertEqual((table.size(), table.bits()), (2 ** bits, bits))
            self.assertEqual(table.counts(), [(7, 2 ** bits)])
            self.assertEqual(table.rows(), [(7, 0, state) for state in range(2 ** bits)])

    def test_all_symbols(self):
        table = Table(list(range(999, -1, -1)) + [0] * 24)
        self.assertEqual(table.counts(), [(0, 25)] + [(symbol, 1) for symbol in range(1, 1000)])

    def test_spreads_of_counts(self):
        for seed in range(20):
            counts = drawn_counts(seed, 1 + seed % 12, 1 + seed % 2 ** (1 + seed % 12) % 40)
            for spread in (spread_by_steps(counts), spread_by_shares(counts)):
                self.assertEqual(Table(spread).counts(), counts)

    def test_kinds_of_the_results(self):
        table = Table(SPREAD)
        self.assertIs(type(table.spread()), list)
        self.assertIs(type(table.size()), int)
        self.assertIs(type(table.bits()), int)
        self.assertEqual([type(item) for item in table.counts()], [tuple] * 3)
        self.assertEqual([type(item) for item in table.rows()], [tuple] * 8)
        self.assertIs(type(table.row(0)), tuple)
        self.assertIs(type(table.before(0, 0)), tuple)
        self.assertEqual({type(part) for item in table.rows() + table.counts() for part in item}, {int})

    def test_results_are_new_and_change_no_table(self):
        for spread in ([3, 3, 4, 3], SPREAD, [5] * 4):
            table = Table(spread)
            other = Table(list(spread))
            for action in (table.spread, table.counts, table.rows):
                first = action()
                expected = list(first)
                self.assertIsNot(first, action())
                first.append(7)
                del first[0]
                first.reverse()
                self.assertEqual(action(), expected)
                self.assertEqual(table, other)
            self.assertEqual(table.rows(), rows_of(spread))

    def test_the_list_that_was_passed_is_copied(self):
        spread = list(SPREAD)
        table = Table(spread)
        spread[0] = 999
        spread.append(3)
        self.assertEqual(table.spread(), SPREAD)
        self.assertEqual(table.rows(), rows_of(SPREAD))
        self.assertEqual(table.counts(), [(0, 5), (1, 2), (2, 1)])
        self.assertEqual(table, Table(SPREAD))
        self.assertEqual(table.before(0, 3), (0, 1, 1))

    def test_by_name(self):
        self.assertEqual(Table(spread=SPREAD), Table(SPREAD))
        self.assertEqual(Table(SPREAD).row(state=3), (0, 0, 0))
        self.assertEqual(Table(SPREAD).before(state=3, symbol=0), (0, 1, 1))
        self.assertEqual(table_of_rows(rows=rows_of(SPREAD)), Table(SPREAD))

    def test_methods_stand_in_the_class_itself(self):
        for name in ("spread", "size", "bits", "counts", "row", "rows", "before", "__eq__", "__init__"):
            self.assertIn(name, vars(Table))
        self.assertEqual(Table.__module__, "spreadstates.tables")
        self.assertEqual(table_of_rows.__module__, "spreadstates.tables")


class Equality(unittest.TestCase):
    def test_equal_spreads(self):
        for spread in small_spreads():
            one, other = Table(spread), Table(list(spread))
            self.assertIs(one == other, True)
            self.assertIs(one != other, False)
            self.assertEqual(one, copy.deepcopy(one))

    def test_unlike_spreads(self):
        spreads = small_spreads()
        for at, one in enumerate(spreads):
            for other in spreads[:at]:
                self.assertIs(Table(one) == Table(other), False)
                self.assertIs(Table(one) != Table(other), True)
        self.assertNotEqual(Table([0, 1, 1, 0]), Table([0, 1, 0, 1]))
        self.assertNotEqual(Table([0, 1]), Table([0, 0, 1, 1]))
        self.assertNotEqual(Table([0, 1]), Table([2, 3]))

    def test_what_is_no_table(self):
        table = Table(SPREAD)
        values = list(wrong_lists().values()) + [SPREAD, tuple(SPREAD), table.rows(), 8, [table]]
        for value in values:
            if not isinstance(value, Table):
                self.assertIs(table == value, False)
                self.assertIs(value == table, False)
                self.assertIs(table != value, True)

    def test_what_would_be_equal_to_all(self):
        class Anything:
            def __eq__(self, other):
                return True

        self.assertIs(Table(SPREAD) == Anything(), False)


class InvalidSpreads(unittest.TestCase):
    def test_what_is_no_list(self):
        for name, value in wrong_lists().items():
            if not isinstance(value, list):
                with self.subTest(name=name):
                    self.assertEqual(told(Table, value), spread_error(-1))
                    self.assertEqual(told(table_of_rows, value), spread_error(-1))
        for value in ((0, 1), "01", b"01", {0: 0, 1: 1}, {0, 1}, range(2), iter([0, 1]), Table([0, 1]), Table):
            self.assertEqual(told(Table, value), spread_error(-1))
            self.assertEqual(told(table_of_rows, value), spread_error(-1))

    def test_lengths(self):
        for many in sizes_that_are_none():
            with self.subTest(many=many):
                self.assertEqual(told(Table, [0] * many), spread_error(many))
                self.assertEqual(told(Table, [None] * many), spread_error(many))
                self.assertEqual(told(table_of_rows, [(0, 0, 0)] * many), spread_error(many))
                self.assertEqual(told(table_of_rows, [None] * many), spread_error(many))
        for bits in range(1, 13):
            self.assertIsNone(told(Table, [0] * 2 ** bits))
        self.assertEqual(told(Table, [1]), spread_error(1))

    def test_items(self):
        for name, item in wrong_items().items():
            with self.subTest(name=name):
                self.assertEqual(told(Table, [item, 0]), spread_error(0))
                self.assertEqual(told(Table, [0, item]), spread_error(1))
                self.assertEqual(told(Table, [3, 4, item, None]), spread_error(2))
                self.assertEqual(told(Table, [0] * 4095 + [item]), spread_error(4095))
        for item in (-1, 1000, -10 ** 40, 10 ** 40, (0, 1), Table([0, 1])):
            self.assertEqual(told(Table, [0, 999, 0, item]), spread_error(3))
        self.assertEqual(told(Table, [True, 0]), spread_error(0))
        self.assertEqual(told(Table, [0, False]), spread_error(1))


class Rows(unittest.TestCase):
    def test_example(self):
        table = Table(SPREAD)
        self.assertEqual(table.row(3), (0, 0, 0))
        expected = [(0, 1, 2), (0, 1, 4), (0, 1, 6), (0, 0, 0), (0, 0, 1), (1, 2, 0), (1, 2, 4), (2, 3, 0)]
        self.assertEqual(table.rows(), expected)

    def test_by_definition(self):
        for spread in small_spreads() + great_spreads():
            with self.subTest(size=len(spread), many=len(set(spread))):
                table = Table(spread)
                self.assertEqual(table.rows(), rows_of(spread))
                self.assertEqual([table.row(state) for state in range(len(spread))], rows_of(spread))

    def test_ranges_of_one_symbol_fill_all_states(self):
        for spread in small_spreads() + great_spreads():
            ends = {}
            for symbol, bits, base in sorted(Table(spread).rows(), key=lambda row: (row[0], row[2])):
                self.assertEqual(ends.get(symbol, 0), base)
                ends[symbol] = base + 2 ** bits
            self.assertEqual(set(ends.values()), {len(spread)})

    def test_what_is_no_state(self):
        for bits in (1, 3, 12):
            table = Table([0, 1] * 2 ** (bits - 1))
            for name, value in wrong_integers(0, 2 ** bits - 1).items():
                with self.subTest(name=name, bits=bits):
                    self.assertEqual(told(table.row, value), bound("state"))
                    self.assertEqual(told(table.row, state=value), bound("state"))


class Before(unittest.TestCase):
    def test_examples(self):
        table = Table(SPREAD)
        self.assertEqual(table.before(0, 3), (0, 1, 1))
        self.assertEqual(table.before(2, 5), (7, 3, 5))

    def test_the_only_way_back(self):
        for spread in small_spreads():
            table = Table(spread)
            for symbol in set(spread):
                for state in range(len(spread)):
                    self.assertEqual([table.before(symbol, state)], before_of(rows_of(spread), symbol, state))

    def test_each_symbol_and_each_state(self):
        for spread in great_spreads():
            table = Table(spread)
            rows = rows_of(spread)
            symbols = sorted(set(spread))
            chosen = symbols if len(spread) * len(symbols) < 70000 else symbols[:9] + symbols[-3:]
            with self.subTest(size=len(spread), many=len(symbols)):
                for symbol in chosen:
                    for state in range(len(spread)):
                        here, bits, number = table.before(symbol, state)
                        read, told_bits, base = rows[here]
                        self.assertEqual((read, told_bits, base + number), (symbol, bits, state))
                        self.assertTrue(0 <= number < 2 ** bits)

    def test_what_is_no_symbol_of_the_table(self):
        table = Table(SPREAD)
        wrong = dict(wrong_items())
        wrong.update({"pair": (0, 2), "below 0": -1, "other": 3, "greatest": 999, "great": 1000, "far": 10 ** 40})
        for name, value in wrong.items():
            with self.subTest(name=name):
                self.assertEqual(told(table.before, value, 0), symbol_error(value))
                self.assertEqual(told(table.before, value, 8), symbol_error(value))
                self.assertEqual(told(table.before, value, None), symbol_error(value))
                self.assertEqual(told(table.before, state=[], symbol=value), symbol_error(value))

    def test_what_is_no_state(self):
        table = Table(SPREAD)
        for name, value in wrong_integers(0, 7).items():
            with self.subTest(name=name):
                for symbol in (0, 1, 2):
                    self.assertEqual(told(table.before, symbol, value), bound("state"))


class TableOfRows(unittest.TestCase):
    def test_turned_about(self):
        for spread in small_spreads() + great_spreads():
            table = Table(spread)
            found = table_of_rows(table.rows())
            self.assertIs(type(found), Table)
            self.assertEqual(found, table)
            self.assertEqual(found.rows(), rows_of(spread))
            self.assertEqual(table_of_rows(rows_of(spread)).spread(), spread)

    def test_shapes(self):
        good = rows_of(SPREAD)
        wrong = list(wrong_items().values())
        wrong += [(0, 1), (0, 1, 2, 3), (), [0, 1, 2], "abc", (-1, 1, 2), (1000, 1, 2), (10 ** 40, 0, 0), 0, 7]
        for item in wrong_items().values():
            wrong += [(item, 1, 2), (0, item, 2), (0, 1, item)]
        for row in wrong:
            for at in range(8):
                rows = good[:at] + [row] + good[at + 1:]
                self.assertEqual(told(table_of_rows, rows), spread_error(at))
            self.assertEqual(told(table_of_rows, [row] * 8), spread_error(0))
        for row in ((1000, 0, 0), (1001, 0, 0), (-1, 0, 0)):
            self.assertEqual(told(table_of_rows, [row, None]), spread_error(0))
            self.assertEqual(told(table_of_rows, [(0, 0, 0), row, None, row]), spread_error(1))
        self.assertEqual(told(table_of_rows, [(True, 1, 0), (0, 1, 0)]), spread_error(0))
        self.assertEqual(told(table_of_rows, [(0, 1, 0), (1, True, 0)]), spread_error(1))
        self.assertEqual(told(table_of_rows, [(0, 1, 0), (1, 1, False)]), spread_error(1))

    def test_wrong_rows(self):
        good = rows_of(SPREAD)
        for at, (symbol, bits, base) in enumerate(good):
            for row in ((symbol, bits + 1, base), (symbol, bits, base + 1), (symbol, bits, -1), (symbol, 10 ** 40, 0)):
                rows = good[:at] + [row] + good[at + 1:]
                self.assertEqual(told(table_of_rows, rows), spread_error(at))
                self.assertEqual(told(table_of_rows, rows[:7] + [(2, 3, 1)]), spread_error(at))
        self.assertEqual(told(table_of_rows, [(0, 1, 0), (0, 1, 0)]), spread_error(0))

    def test_the_table_of_these_symbols_tells_the_rows(self):
        # Another symbol in state 1 changes the row of state 0 already.
        rows = rows_of([0, 0, 1, 1])
        rows[1] = (1,) + rows[1][1:]
        expected = rows_of([0, 1, 1, 1])
        at = [one == other for one, other in zip(rows, expected)].index(False)
        self.assertEqual(told(table_of_rows, rows), spread_error(at))
        draw = random.Random(15)
        for spread in small_spreads():
            rows = rows_of(spread)
            at = draw.randrange(len(rows))
            rows[at] = (draw.choice(spread),) + rows[at][1:]
            expected = rows_of([row[0] for row in rows])
            wrong = [here for here, row in enumerate(rows) if row != expected[here]]
            self.assertEqual(told(table_of_rows, rows), spread_error(wrong[0]) if wrong else None)

    def test_shapes_come_ahead_of_wrong_rows(self):
        rows = [(0, 5, 5)] * 7 + [None]
        self.assertEqual(told(table_of_rows, rows), spread_error(7))
        self.assertEqual(told(table_of_rows, [(0, 5, 5)] * 4), spread_error(0))
        self.assertEqual(told(table_of_rows, [(0, 5, 5), (0, 5), (0, 5, 5), None]), spread_error(1))

    def test_rows_are_not_changed(self):
        rows = rows_of(SPREAD)
        table = table_of_rows(rows)
        rows[0] = None
        rows.append(3)
        self.assertEqual(table.rows(), rows_of(SPREAD))


if __name__ == "__main__":
    unittest.main()
