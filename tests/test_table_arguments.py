"""Points 2 and 4 for tables and all that is built on them: names of arguments, wrong ones in their order,
nothing that changes."""

import copy
import inspect
import unittest

from spreadstates import coding, errors, lengths, streams, tables
from spreadstates.tables import Table
from tests.samples import SPREAD, bound, limit, no_tables, raised, spread_error, stream_error, symbol_error
from tests.samples import text_error, told, wrong_integers, wrong_items, wrong_lists, wrong_streams, wrong_texts

SMALL = Table(SPREAD)
GREAT = Table([0, 1, 2, 0] * 1024)
STREAM = [0, 1, 0, 1, 0, 0, 0]

# For each function: the names of its arguments, with a valid value, and the names of those behind the star.
CALLS = (
    (Table, (("spread", SPREAD),), ()),
    (tables.table_of_rows, (("rows", SMALL.rows()),), ()),
    (coding.write, (("table", SMALL), ("text", [0, 2]), ("last", 3)), ()),
    (coding.read, (("table", SMALL), ("stream", STREAM), ("many", 2)), ()),
    (coding.steps, (("table", SMALL), ("stream", STREAM), ("many", 2)), ()),
    (coding.read_whole, (("table", SMALL), ("stream", STREAM), ("many", 2), ("last", 0)), ()),
    (coding.cut, (("table", SMALL), ("stream", STREAM), ("many", 1)), ()),
    (coding.joined, (("table", SMALL), ("first", STREAM), ("many", 2), ("second", [0, 0, 0, 1])), ()),
    (coding.deltas, (("table", SMALL),), ()),
    (lengths.length, (("table", SMALL), ("text", [0, 2]), ("last", 3)), ()),
    (lengths.lengths, (("table", SMALL), ("text", [0, 2])), ()),
    (lengths.best_last, (("table", SMALL), ("text", [0, 2])), ()),
    (lengths.extremes, (("table", SMALL), ("many", 7)), ()),
    (lengths.shortest_text, (("table", SMALL), ("many", 7)), ()),
    (lengths.longest_text, (("table", SMALL), ("many", 7)), ()),
    (lengths.length_counts, (("table", SMALL), ("many", 7)), ()),
    (lengths.text_at, (("table", SMALL), ("many", 3), ("number", 11), ("last", 2)), ()),
    (lengths.place_of, (("table", SMALL), ("text", [0, 2, 1]), ("last", 2)), ()),
    (lengths.means, (("table", SMALL),), ()),
    (streams.symbols_in, (("table", SMALL), ("stream", [0, 0, 0, 1])), ()),
    (streams.count_streams, (("table", SMALL), ("many", 2), ("begin", [0]), ("bits", 6), ("last", 3)),
     ("begin", "bits", "last")),
    (streams.streams_ahead, (("table", SMALL), ("stream", STREAM), ("many", 2), ("bits", 6), ("last", 3)),
     ("bits", "last")),
    (streams.stream_at, (("table", SMALL), ("many", 2), ("number", 1), ("bits", 6), ("last", 3)), ("bits", "last")),
    (streams.state_shares, (("table", SMALL), ("many", 2)), ()),
    (streams.text_share, (("table", SMALL), ("text", [0, 2])), ()),
    (streams.share_within, (("table", SMALL), ("many", 2), ("bits", 6)), ()),
    (streams.completed, (("table", SMALL), ("stream", [1]), ("many", 2), ("last", 5)), ()),
)

SIGNATURES = {
    tables.table_of_rows: "(rows)", coding.write: "(table, text, last=0)", coding.read: "(table, stream, many)",
    coding.steps: "(table, stream, many)", coding.read_whole: "(table, stream, many, last=None)",
    coding.cut: "(table, stream, many)", coding.joined: "(table, first, many, second)", coding.deltas: "(table)",
    lengths.length: "(table, text, last=0)", lengths.lengths: "(table, text)", lengths.best_last: "(table, text)",
    lengths.extremes: "(table, many)", lengths.shortest_text: "(table, many)", lengths.longest_text: "(table, many)",
    lengths.length_counts: "(table, many)", lengths.text_at: "(table, many, number, last=0)",
    lengths.place_of: "(table, text, last=0)", lengths.means: "(table)", streams.symbols_in: "(table, stream)",
    streams.count_streams: "(table, many, *, begin=None, bits=None, last=None)",
    streams.streams_ahead: "(table, stream, many, *, bits=None, last=None)",
    streams.stream_at: "(table, many, number, *, bits=None, last=None)",
    streams.state_shares: "(table, many)", streams.text_share: "(table, text)",
    streams.share_within: "(table, many, bits)", streams.completed: "(table, stream, many, last=None)",
    Table.spread: "(self)", Table.size: "(self)", Table.bits: "(self)", Table.counts: "(self)",
    Table.row: "(self, state)", Table.rows: "(self)", Table.before: "(self, symbol, state)",
}

# Calls that raise an error: of the arguments, of a limit, and of what is found while the call goes on.
FAILURES = (
    (Table, ([0, 1, None, 2],)), (Table, ([0, 1, 2],)), (tables.table_of_rows, ([(0, 1, 0), (0, 1, 0)],)),
    (coding.write, (SMALL, [0, 3])), (coding.write, (SMALL, [0, 2], 8)), (coding.write, (SMALL, [0, None])),
    (coding.read, (SMALL, STREAM, 3)), (coding.steps, (SMALL, [0, 2], 1)), (coding.read_whole, (SMALL, STREAM, 1)),
    (coding.read_whole, (SMALL, STREAM, 2, 1)), (coding.cut, (SMALL, STREAM, 9)),
    (coding.joined, (SMALL, STREAM, 1, [0, 0, 0])), (coding.joined, (SMALL, STREAM, 2, [0, 0, 1])),
    (lengths.lengths, (GREAT, [0] * 49)), (lengths.extremes, (GREAT, 3)), (lengths.shortest_text, (SMALL, 201)),
    (lengths.text_at, (SMALL, 2, 9)), (lengths.place_of, (SMALL, [0] * 251)), (lengths.means, (GREAT,)),
    (streams.symbols_in, (SMALL, [0, 2])), (streams.count_streams, (SMALL, 251)), (streams.stream_at, (SMALL, 1, 24)),
    (streams.streams_ahead, (SMALL, [0, -1], 1)), (streams.text_share, (GREAT, [1])),
    (streams.completed, (SMALL, [0, 2], 1)), (streams.share_within, (SMALL, 1, -1)),
)


def call(action, arguments, behind):
    """Calls with arguments by position, and those behind the star by name."""
    values = [value for name, value in arguments if name not in behind]
    return action(*values, **{name: value for name, value in arguments if name in behind})


def shown(value):
    """A value with the spread and the rows of tables."""
    if isinstance(value, Table):
        return ("table", value.spread(), value.size(), value.bits(), value.counts(), value.rows())
    return repr(value)


class Interface(unittest.TestCase):
    def test_names_and_defaults(self):
        for action, expected in SIGNATURES.items():
            with self.subTest(name=action.__name__):
                self.assertEqual(str(inspect.signature(action)), expected)
        self.assertEqual(str(inspect.signature(Table)), "(spread)")

    def test_all_functions_are_called_here(self):
        called = {action for action, _, _ in CALLS}
        self.assertEqual({action for action in SIGNATURES if inspect.getmodule(action) is not tables}, called - {
            Table, tables.table_of_rows})

    def test_functions_are_defined_in_their_files(self):
        for module in (tables, coding, lengths, streams):
            for action, _, _ in CALLS:
                if action.__module__ == module.__name__:
                    self.assertIs(getattr(module, action.__name__), action)
        names = [(action.__module__.split(".")[1], action.__name__) for action, _, _ in CALLS]
        self.assertEqual([name for file, name in names if file == "tables"], ["Table", "table_of_rows"])
        expected = ["write", "read", "steps", "read_whole", "cut", "joined", "deltas"]
        self.assertEqual([name for file, name in names if file == "coding"], expected)
        expected = ["length", "lengths", "best_last", "extremes", "shortest_text", "longest_text", "length_counts"]
        expected += ["text_at", "place_of", "means"]
        self.assertEqual([name for file, name in names if file == "lengths"], expected)
        expected = ["symbols_in", "count_streams", "streams_ahead", "stream_at", "state_shares", "text_share"]
        expected += ["share_within", "completed"]
        self.assertEqual([name for file, name in names if file == "streams"], expected)

    def test_by_position_and_by_name(self):
        for action, arguments, behind in CALLS:
            with self.subTest(name=action.__name__):
                expected = call(action, arguments, behind)
                self.assertEqual(action(**dict(arguments)), expected)
                self.assertEqual(action(**dict(arguments[::-1])), expected)
                for many in range(len(arguments) - len(behind) + 1):
                    ahead = [value for _, value in arguments[:many]]
                    self.assertEqual(action(*ahead, **dict(arguments[many:])), expected)

    def test_names_alone_behind_the_star(self):
        for action, arguments, behind in CALLS:
            if behind:
                with self.subTest(name=action.__name__), self.assertRaises(TypeError):
                    action(*[value for _, value in arguments[:len(arguments) - len(behind) + 1]])


class NothingChanges(unittest.TestCase):
    def test_arguments_stay_as_they_were(self):
        for action, arguments, behind in CALLS:
            values = copy.deepcopy(arguments)
            with self.subTest(name=action.__name__):
                call(action, values, behind)
                self.assertEqual([shown(value) for _, value in values], [shown(value) for _, value in arguments])
                self.assertEqual(values, arguments)

    def test_arguments_stay_as_they_were_behind_errors(self):
        for action, arguments in FAILURES:
            values = copy.deepcopy(arguments)
            with self.subTest(name=action.__name__):
                self.assertIsNotNone(raised(action, *values))
                self.assertEqual([shown(value) for value in values], [shown(value) for value in arguments])

    def test_the_same_call_gives_the_same(self):
        expected = [call(action, arguments, behind) for action, arguments, behind in CALLS]
        for action, arguments in FAILURES:
            raised(action, *arguments)
        for (action, arguments, behind), first in zip(CALLS, expected):
            with self.subTest(name=action.__name__):
                self.assertEqual(call(action, copy.deepcopy(arguments), behind), first)

    def test_results_are_new_lists(self):
        for action, arguments, behind in CALLS:
            first = call(action, arguments, behind)
            parts = [first] + list(first if isinstance(first, (list, tuple)) else [])
            for at, part in enumerate(parts):
                if isinstance(part, list):
                    with self.subTest(name=action.__name__, part=at):
                        expected = copy.deepcopy(call(action, arguments, behind))
                        for _, value in arguments:
                            self.assertIsNot(part, value)
                        part.append("more")
                        part.reverse()
                        self.assertEqual(call(action, arguments, behind), expected)
        self.assertEqual(shown(SMALL), shown(Table([0, 0, 0, 0, 0, 1, 1, 2])))

    def test_results_equal_to_arguments_are_new(self):
        stream = [1, 0, 1]
        found = [coding.cut(SMALL, stream, 0)[0], coding.cut(SMALL, stream, 0)[1], coding.joined(SMALL, stream, 0, stream)]
        found.append(streams.stream_at(SMALL, 0, 5))
        for value in found:
            self.assertEqual(value, [1, 0, 1])
            self.assertIsNot(value, stream)
            value.append(1)
        self.assertEqual(stream, [1, 0, 1])
        text = [0, 2]
        read = coding.read_whole(SMALL, STREAM, 2)
        self.assertEqual(read, text)
        read.clear()
        self.assertEqual(coding.read_whole(SMALL, STREAM, 2), text)


class WrongArguments(unittest.TestCase):
    def wrong_for(self, action, name):
        """Wrong values for an argument, as tuples of a name, the value and what is told of it."""
        if name == "table":
            return [(key, value, bound("table")) for key, value in no_tables().items()]
        if name == "text":
            return [(key, value, text_error(at)) for key, (value, at) in wrong_texts().items()]
        if name in ("stream", "first"):
            return [(key, value, stream_error(at)) for key, (value, at) in wrong_streams().items()]
        if name in ("begin", "second"):
            found = [(key, value, bound(name)) for key, (value, _) in wrong_streams().items()]
            return [row for row in found if name == "second" or row[1] is not None]
        if name == "many":
            most = 10 ** 30 if action in (lengths.extremes, lengths.shortest_text, lengths.longest_text) else 10000
            return [(key, value, bound("many")) for key, value in wrong_integers(0, most).items()]
        if name == "last":
            found = [(key, value, bound("last")) for key, value in wrong_integers(0, 7).items()]
            is_free = action in (coding.read_whole, streams.completed) or action.__module__ == streams.__name__
            return [row for row in found if row[1] is not None or not is_free]
        if name == "bits":
            wrong = wrong_integers(0, 10 ** 50)
            del wrong["too great"], wrong["far too great"]
            found = [(key, value, bound("bits")) for key, value in wrong.items() if value != 10 ** 40]
            return [row for row in found if row[1] is not None or action is streams.share_within]
        return [(key, value, bound(name)) for key, value in wrong_integers(0, 8).items()]

    def test_each_argument_with_wrong_ones_behind_it(self):
        for action, arguments, _ in CALLS:
            if action not in (Table, tables.table_of_rows):
                # "number" is looked at behind all others.
                names = [name for name, _ in arguments if name != "number"]
                for at, name in enumerate(names):
                    self.check(action, dict(arguments), name, names[at + 1:] + ["number"])

    def check(self, action, values, name, behind):
        others = [other for other in behind if other in values]
        for key, value, expected in self.wrong_for(action, name):
            with self.subTest(action=action.__name__, argument=name, value=key):
                self.assertEqual(told(action, **dict(values, **{name: value})), expected)
                for wrong in ([], -1, None, "text", {}, [[]], True, ((),)):
                    more = {other: wrong for other in others}
                    self.assertEqual(told(action, **dict(values, **more, **{name: value})), expected)

    def test_spreads_and_rows(self):
        for name, value in wrong_lists().items():
            for action in (Table, tables.table_of_rows):
                with self.subTest(action=action.__name__, name=name):
                    expected = spread_error(len(value) if isinstance(value, list) else -1)
                    self.assertEqual(told(action, value), expected)

    def test_values_nested_deep(self):
        deep = [value for name, value in wrong_items().items() if "deep" in name or name == "endless"]
        self.assertGreater(len(deep), 3)
        for value in deep:
            self.assertEqual(told(Table, [value, value]), spread_error(0))
            self.assertEqual(told(tables.table_of_rows, [value, value]), spread_error(0))
            self.assertEqual(told(tables.table_of_rows, [(0, 0, value), value]), spread_error(0))
            self.assertEqual(told(SMALL.before, value, value), symbol_error(value))
            self.assertEqual(told(SMALL.row, value), bound("state"))
            self.assertIs(SMALL == value, False)

    def test_limits_come_last(self):
        for action, values, expected in (
            (lengths.lengths, {"table": GREAT, "text": [0] * 49}, limit(200000)),
            (lengths.best_last, {"table": GREAT, "text": [0] * 49}, limit(200000)),
            (lengths.extremes, {"table": GREAT, "many": 1}, limit(64)),
            (lengths.extremes, {"table": Table([0, 1] * 16), "many": 201}, limit(16)),
            (lengths.shortest_text, {"table": GREAT, "many": 201}, limit(64)),
            (lengths.longest_text, {"table": SMALL, "many": 201}, limit(200)),
            (lengths.length_counts, {"table": GREAT, "many": 1}, limit(2000)),
            (lengths.text_at, {"table": GREAT, "many": 1, "number": 0, "last": 0}, limit(2000)),
            (lengths.place_of, {"table": GREAT, "text": [0], "last": 0}, limit(2000)),
            (streams.count_streams, {"table": GREAT, "many": 1, "begin": [0], "bits": 3, "last": 1}, limit(2000)),
            (streams.streams_ahead, {"table": GREAT, "stream": [], "many": 1, "bits": 3, "last": 1}, limit(2000)),
            (streams.stream_at, {"table": GREAT, "many": 1, "number": 0, "bits": 3, "last": 1}, limit(2000)),
            (streams.state_shares, {"table": GREAT, "many": 1}, limit(2000)),
            (streams.text_share, {"table": GREAT, "text": [0]}, limit(2000)),
            (streams.share_within, {"table": GREAT, "many": 1, "bits": 0}, limit(2000)),
            (streams.completed, {"table": GREAT, "stream": [0], "many": 1, "last": 0}, limit(2000)),
        ):
            with self.subTest(action=action.__name__):
                self.assertEqual(told(action, **values), expected)
                for name in values:
                    if name not in ("table", "number"):
                        found = told(action, **dict(values, **{name: "wrong"}))
                        kinds = {"text": text_error(-1), "stream": stream_error(-1)}
                        self.assertEqual(found, kinds.get(name, bound(name)))

    def test_only_stated_errors(self):
        for action, arguments in FAILURES:
            with self.subTest(name=action.__name__):
                self.assertIn(errors.SpreadError, type(raised(action, *arguments)).__bases__)


if __name__ == "__main__":
    unittest.main()
