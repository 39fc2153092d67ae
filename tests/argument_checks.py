"""Points 2 and 4 for lists of calls: names of arguments, wrong ones in their order, nothing that changes.

A call is a tuple (action, arguments, behind): the arguments are tuples (name, valid value, kind), and
`behind` is the number of those behind the star. A kind tells which values are wrong, by KINDS, or is
a tuple of words and numbers of which the first one is a key of KINDS.
"""

import copy
import inspect

from spreadstates import errors
from spreadstates.tables import Table
from tests.samples import bound, no_tables, raised, spread_error, stream_error, text_error, told
from tests.samples import wrong_counts, wrong_integers, wrong_items, wrong_lists, wrong_numbers, wrong_streams, wrong_texts

WRONG_BEHIND = ([], -1, None, "text", {}, [[]], True, ((),), 10 ** 40)


def wrong_texts_of(name):
    return [(key, value, text_error(at)) for key, (value, at) in wrong_texts().items()]


def wrong_full_texts(name):
    return wrong_texts_of(name) + [("empty text", [], text_error(0))]


def wrong_streams_of(name):
    return [(key, value, stream_error(at)) for key, (value, at) in wrong_streams().items()]


def wrong_tables(name):
    return [(key, value, bound(name)) for key, value in no_tables().items()]


def wrong_within(name, least, most):
    return [(key, value, bound(name)) for key, value in wrong_integers(least, most).items()]


def wrong_within_or_none(name, least, most):
    return [row for row in wrong_within(name, least, most) if row[1] is not None]


def wrong_counts_of(name):
    return [(key, value, bound(name)) for key, value in wrong_counts().items()]


def wrong_weights(name):
    found = [(key, value, bound(name)) for key, value in wrong_numbers().items()]
    return found + [("strange", [(0, 1), (3, 1)], bound(name)), ("all strange", [(900, 1)], bound(name))]


def wrong_symbols(name):
    wrong = {key: value for key, value in wrong_lists().items() if value not in ([0], [1], [2])}
    wrong.update({"strange": [3], "late strange": [0, 9], "no order": [1, 0], "twice": [1, 1], "below 0": [-1, 0]})
    return [(key, value, bound(name)) for key, value in wrong.items()]


def wrong_spreads(name):
    found = []
    for key, value in wrong_lists().items():
        found.append((key, value, spread_error(len(value) if isinstance(value, list) else -1)))
    for key, item in wrong_items().items():
        found.append(("spread of " + key, [0, item], spread_error(1)))
        found.append(("late " + key, [0, 1, 0, 1, 1, item, 2, item], spread_error(5)))
    found += [("great", [0, 1000], spread_error(1)), ("below 0", [-1, 0], spread_error(0))]
    return found + [("long", [0] * 8192, spread_error(8192)), ("of no length", [0] * 6, spread_error(6))]


def wrong_words(name):
    wrong = dict(wrong_lists(), **{"another word": "step", "in front": "Bits", "longer": "runs ", "pair": ("bits",)})
    return [(key, value, bound(name)) for key, value in wrong.items()]


def wrong_flags(name):
    wrong = {key: value for key, value in wrong_lists().items() if value is not True and value is not False}
    wrong.update({"one": 1, "zero": 0})
    return [(key, value, bound(name)) for key, value in wrong.items()]


def wrong_changes(name):
    found = [(key, value, bound(name)) for key, value in wrong_lists().items()]
    for key, item in wrong_items().items():
        for at, value in enumerate((("turn", item), (item, 0), ("put", 0, item), ("put", item, 0), ("drop", item))):
            found.append((f"{at} with {key}", value, bound(name)))
    return found


def wrong_rows_of_tables(name):
    wrong = wrong_lists()
    wrong.update({"unlike sizes": [Table([0, 1]), Table([0, 1, 1, 1])], "nine": [Table([0, 1])] * 9, "class": [Table]})
    del wrong["list of a table"]
    return [(key, value, bound(name)) for key, value in wrong.items()]


def wrong_lasts(name):
    wrong = {key: value for key, value in wrong_lists().items() if value is not None}
    wrong.update({"too few": [0], "too many": [0, 0, 0], "too great": [0, 8], "below 0": [-1, 0], "truth": [0, True]})
    return [(key, value, bound(name)) for key, value in wrong.items()]


def wrong_rows_of_streams(name):
    wrong = {key: value for key, value in wrong_lists().items() if value not in ([[]], [[1]])}
    wrong.update({"nine": [[0, 0, 0]] * 9, "no bit": [[0, 0, 0], [2]], "truth": [[True]], "tuples": [(0, 0, 0)]})
    return [(key, value, bound(name)) for key, value in wrong.items()]


def wrong_tables_after(name):
    wrong = {key: value for key, value in wrong_lists().items() if value != []}
    small = Table([0, 0, 0, 0, 0, 1, 1, 2])
    wrong.update({"no order": [(1, small), (0, small)], "twice": [(1, small)] * 2, "unlike size": [(1, Table([0, 1]))]})
    wrong.update({"lists": [[0, small]], "great": [(1000, small)], "truth": [(True, small)], "spread": [(0, [0, 1])]})
    return [(key, value, bound(name)) for key, value in wrong.items()]


KINDS = {
    "text": wrong_texts_of, "full text": wrong_full_texts, "stream": wrong_streams_of, "table": wrong_tables,
    "within": wrong_within, "within or none": wrong_within_or_none, "counts": wrong_counts_of, "weights": wrong_weights,
    "symbols": wrong_symbols, "spread": wrong_spreads, "maker": wrong_words, "flag": wrong_flags, "change": wrong_changes,
    "tables": wrong_rows_of_tables, "lasts": wrong_lasts, "streams": wrong_rows_of_streams, "after": wrong_tables_after,
}


def wrong_for(name, kind):
    """The tuples (key, value, what is told of it) of values that are wrong for an argument of a kind."""
    words = kind if isinstance(kind, tuple) else (kind,)
    return KINDS[words[0]](name, *words[1:])


def values_of(arguments):
    return {name: value for name, value, _ in arguments}


def call(action, arguments, behind):
    """Calls with arguments by position, and those behind the star by name."""
    ahead = len(arguments) - behind
    return action(*[value for _, value, _ in arguments[:ahead]], **values_of(arguments[ahead:]))


def shown(value):
    """A value with all that tables in it have."""
    if isinstance(value, Table):
        return ("table", value.spread(), value.size(), value.bits(), value.counts(), value.rows())
    if isinstance(value, (list, tuple)):
        return (type(value).__name__, [shown(item) for item in value])
    return repr(value)


def lists_in(value):
    """All lists within lists and tuples."""
    found = [value] if isinstance(value, list) else []
    if isinstance(value, (list, tuple)):
        for item in value:
            found += lists_in(item)
    return found


def check_signatures(test, calls, signatures):
    """Names, defaults, files: each function is the one of its file, and each is called."""
    for action, expected in signatures.items():
        with test.subTest(name=action.__name__):
            test.assertEqual(str(inspect.signature(action)), expected)
            test.assertIs(getattr(inspect.getmodule(action), action.__name__), action)
    test.assertEqual({action for action, _, _ in calls}, set(signatures))


def check_names(test, calls):
    """By position, by name, and those behind the star by name alone."""
    for action, arguments, behind in calls:
        with test.subTest(name=action.__name__):
            expected = call(action, arguments, behind)
            test.assertEqual(action(**values_of(arguments)), expected)
            test.assertEqual(action(**values_of(arguments[::-1])), expected)
            for many in range(len(arguments) - behind + 1):
                ahead = [value for _, value, _ in arguments[:many]]
                test.assertEqual(action(*ahead, **values_of(arguments[many:])), expected)
            if behind:
                with test.assertRaises(TypeError):
                    action(*[value for _, value, _ in arguments[:len(arguments) - behind + 1]])


def check_unchanged(test, calls, failures):
    """Arguments are as they were behind calls and errors, and equal calls return equal results."""
    results = [shown(call(action, arguments, behind)) for action, arguments, behind in calls]
    for action, arguments in failures:
        values = copy.deepcopy(arguments)
        with test.subTest(name=action.__name__):
            test.assertIsNotNone(raised(action, *values))
            test.assertEqual(shown(values), shown(arguments))
    for (action, arguments, behind), expected in zip(calls, results):
        values = copy.deepcopy(arguments)
        with test.subTest(name=action.__name__):
            test.assertEqual(shown(call(action, values, behind)), expected)
            test.assertEqual(shown([value for _, value, _ in values]), shown([value for _, value, _ in arguments]))


def check_new(test, calls):
    """Lists in results are new: changing them changes neither arguments nor later results."""
    for action, arguments, behind in calls:
        with test.subTest(name=action.__name__):
            expected = shown(call(action, arguments, behind))
            before = shown([value for _, value, _ in arguments])
            for part in lists_in(call(action, arguments, behind)):
                part.append("more")
                part.reverse()
            test.assertEqual(shown([value for _, value, _ in arguments]), before)
            test.assertEqual(shown(call(action, arguments, behind)), expected)


def check_wrong(test, calls):
    """Each wrong value, alone and with wrong ones behind it."""
    for action, arguments, _ in calls:
        values = values_of(arguments)
        for at, (name, _, kind) in enumerate(arguments):
            others = [other for other, _, _ in arguments[at + 1:]]
            for key, value, expected in wrong_for(name, kind):
                with test.subTest(action=action.__name__, argument=name, value=key):
                    test.assertEqual(told(action, **dict(values, **{name: value})), expected)
                    for wrong in WRONG_BEHIND:
                        more = {other: wrong for other in others}
                        test.assertEqual(told(action, **dict(values, **more, **{name: value})), expected)


class Checks:
    """The tests of a file: `calls`, `signatures`, and `failures`, tuples (action, values, what is told of it)."""

    calls = ()
    signatures = {}
    failures = ()

    def test_names_and_files(self):
        check_signatures(self, self.calls, self.signatures)

    def test_by_position_and_by_name(self):
        check_names(self, self.calls)

    def test_nothing_changes(self):
        check_unchanged(self, self.calls, [(action, values) for action, values, _ in self.failures])

    def test_results_are_new(self):
        check_new(self, self.calls)

    def test_wrong_ones_in_their_order(self):
        check_wrong(self, self.calls)

    def test_errors_behind_the_arguments(self):
        for action, values, expected in self.failures:
            with self.subTest(name=action.__name__):
                self.assertEqual(told(action, *values), expected)
                self.assertIn(errors.SpreadError, type(raised(action, *values)).__bases__)
