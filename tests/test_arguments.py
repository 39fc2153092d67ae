"""Points 2 and 4 for all functions: names of arguments, wrong ones in their order, nothing that changes."""

import copy
import inspect
import unittest

from spreadstates import counts, errors, spreads, wholes
from tests.samples import SMALL, bound, limit, raised, text_error, told
from tests.samples import wrong_counts, wrong_integers, wrong_lists, wrong_numbers

# For each function: the names of its arguments, with a valid value, as the interface has them.
CALLS = (
    (wholes.is_integer, (("value", 3),)),
    (counts.numbers_of, (("text", [7, 3, 7, 999, 0]),)),
    (counts.by_rests, (("numbers", SMALL), ("bits", 2))),
    (counts.by_rests, (("numbers", [(1, 9), (2, 2), (3, 1), (4, 1), (5, 1)]), ("bits", 3))),
    (counts.by_product, (("numbers", SMALL), ("bits", 3))),
    (counts.product_order, (("numbers", SMALL), ("counts", SMALL), ("others", [(0, 2), (1, 1), (2, 1)]))),
    (spreads.spread_by_steps, (("counts", SMALL),)),
    (spreads.spread_by_steps, (("counts", [(0, 6), (1, 1), (2, 1)]), ("rare", [1, 2]))),
    (spreads.spread_by_runs, (("counts", SMALL),)),
    (spreads.spread_by_bits, (("counts", SMALL),)),
    (spreads.spread_by_shares, (("counts", SMALL),)),
    (spreads.order_of_steps, (("bits", 4), ("many", 1))),
)

# Calls that raise an error, also behind having looked at all arguments.
FAILURES = (
    (counts.numbers_of, ([7, 3, None, [1]],)), (counts.numbers_of, ([],)), (counts.numbers_of, ([5] * 10001,)),
    (counts.by_rests, ([(1, 2), (0, 2)], 3)), (counts.by_rests, ([(0, 1), (1, 1), (2, 1)], 1)),
    (counts.by_rests, (SMALL, [2])), (counts.by_product, ([(0, 1), (1, 1), (2, 1)], 1)),
    (counts.by_product, (SMALL, 9)), (counts.by_product, ([(4, 2001), (5, 3)], 8)),
    (counts.product_order, ([(0, 1), (1, 2000)], [(0, 3), (1, 1)], [(0, 2), (1, 2)])),
    (counts.product_order, (SMALL, SMALL, [(0, 2), (2, 1), (1, 1)])),
    (spreads.spread_by_steps, ([(0, 6), (1, 1), (2, 1)], [2, 1])), (spreads.spread_by_steps, ([(0, 6), (1, 1)], [1])),
    (spreads.spread_by_runs, ([(3, 2), (1, 2)],)), (spreads.spread_by_bits, ([(3, 2), (1, 2)],)),
    (spreads.spread_by_shares, ([(3, 2), (1, 2)],)), (spreads.order_of_steps, ([4], [1])),
)


def some_wrong():
    """Wrong values for any argument that is looked at behind a wrong one."""
    return (None, True, "text", -1, {}, {1}, [None], ((),), [[1]])


class Interface(unittest.TestCase):
    def test_names_and_defaults(self):
        expected = {
            wholes.is_integer: "(value)", counts.numbers_of: "(text)", counts.by_rests: "(numbers, bits)",
            counts.by_product: "(numbers, bits)", counts.product_order: "(numbers, counts, others)",
            spreads.spread_by_steps: "(counts, rare=())", spreads.spread_by_runs: "(counts)",
            spreads.spread_by_bits: "(counts)", spreads.spread_by_shares: "(counts)",
            spreads.order_of_steps: "(bits, many)",
        }
        for action, shown in expected.items():
            with self.subTest(name=action.__name__):
                self.assertEqual(str(inspect.signature(action)), shown)
        self.assertEqual(set(expected), {action for action, _ in CALLS})

    def test_functions_are_defined_in_their_files(self):
        for module, names in (
            (wholes, ("is_integer",)), (counts, ("numbers_of", "by_rests", "by_product", "product_order")),
            (spreads, ("spread_by_steps", "spread_by_runs", "spread_by_bits", "spread_by_shares", "order_of_steps")),
        ):
            for name in names:
                self.assertEqual(getattr(module, name).__module__, module.__name__)

    def test_by_position_and_by_name(self):
        for action, arguments in CALLS:
            with self.subTest(name=action.__name__):
                expected = action(*[value for _, value in arguments])
                self.assertEqual(action(**dict(arguments)), expected)
                self.assertEqual(action(**dict(arguments[::-1])), expected)
                for many in range(len(arguments)):
                    ahead = [value for _, value in arguments[:many]]
                    self.assertEqual(action(*ahead, **dict(arguments[many:])), expected)


class NothingChanges(unittest.TestCase):
    def test_arguments_stay_as_they_were(self):
        for action, arguments in CALLS:
            values = copy.deepcopy([value for _, value in arguments])
            with self.subTest(name=action.__name__):
                action(*values)
                self.assertEqual(values, [value for _, value in arguments])
                self.assertEqual(repr(values), repr([value for _, value in arguments]))

    def test_arguments_stay_as_they_were_behind_errors(self):
        for action, arguments in FAILURES:
            values = copy.deepcopy(list(arguments))
            with self.subTest(name=action.__name__):
                self.assertIsNotNone(raised(action, *values))
                self.assertEqual(repr(values), repr(list(arguments)))

    def test_the_same_call_gives_the_same_behind_errors(self):
        expected = [action(*[value for _, value in arguments]) for action, arguments in CALLS]
        for action, arguments in FAILURES:
            raised(action, *arguments)
        self.assertEqual([action(*[value for _, value in arguments]) for action, arguments in CALLS], expected)

    def test_results_are_new_lists(self):
        for action, arguments in CALLS:
            values = [value for _, value in arguments]
            first = action(*values)
            if isinstance(first, list):
                with self.subTest(name=action.__name__):
                    expected = list(first)
                    second = action(*values)
                    self.assertIsNot(first, second)
                    self.assertEqual(second, expected)
                    for value in values:
                        self.assertIsNot(first, value)
                    first.append("more")
                    del second[0]
                    self.assertEqual(action(*values), expected)
                    self.assertEqual(action(*copy.deepcopy(values)), expected)

    def test_results_equal_to_their_arguments_are_new(self):
        same = [(0, 5), (1, 2), (2, 1)]
        for action in (counts.by_rests, counts.by_product):
            found = action(same, 3)
            self.assertEqual(found, same)
            self.assertIsNot(found, same)
            found.clear()
            self.assertEqual(same, [(0, 5), (1, 2), (2, 1)])

    def test_equal_errors_are_new(self):
        first = raised(counts.by_rests, SMALL, 1)
        second = raised(counts.by_rests, SMALL, 1)
        self.assertIsNot(first, second)
        self.assertEqual(vars(first), vars(second))


class WrongArguments(unittest.TestCase):
    def check(self, action, ahead, wrong, behind, expected):
        """Each wrong value alone, and with wrong ones behind it."""
        for name, value in wrong.items():
            with self.subTest(action=action.__name__, name=name):
                self.assertEqual(told(action, *ahead, value, *behind), expected)
                for other in some_wrong():
                    others = [other] * len(behind)
                    self.assertEqual(told(action, *ahead, value, *others), expected)

    def test_text(self):
        for name, value in wrong_lists().items():
            expected = text_error(0 if isinstance(value, list) else -1)
            with self.subTest(name=name):
                self.assertEqual(told(counts.numbers_of, value), expected)
                self.assertEqual(told(counts.numbers_of, text=value), expected)

    def test_numbers(self):
        self.check(counts.by_rests, [], wrong_numbers(), [3], bound("numbers"))
        self.check(counts.by_product, [], wrong_numbers(), [3], bound("numbers"))
        self.check(counts.product_order, [], wrong_numbers(), [SMALL, SMALL], bound("numbers"))

    def test_bits(self):
        self.check(counts.by_rests, [SMALL], wrong_integers(1, 12), [], bound("bits"))
        self.check(counts.by_product, [SMALL], wrong_integers(1, 12), [], bound("bits"))
        self.check(spreads.order_of_steps, [], wrong_integers(1, 12), [1], bound("bits"))

    def test_wrong_bits_come_ahead_of_limits(self):
        many = [(symbol, 10 ** 30) for symbol in range(1000)]
        self.check(counts.by_rests, [many], wrong_integers(1, 12), [], bound("bits"))
        self.check(counts.by_product, [many], wrong_integers(1, 12), [], bound("bits"))

    def test_counts_and_others(self):
        self.check(counts.product_order, [SMALL], wrong_counts(), [SMALL], bound("counts"))
        self.check(counts.product_order, [SMALL, SMALL], wrong_counts(), [], bound("others"))
        for action in (spreads.spread_by_runs, spreads.spread_by_bits, spreads.spread_by_shares):
            self.check(action, [], wrong_counts(), [], bound("counts"))
        self.check(spreads.spread_by_steps, [], wrong_counts(), [[2]], bound("counts"))
        self.check(spreads.spread_by_steps, [], wrong_counts(), [], bound("counts"))

    def test_wrong_counts_come_ahead_of_limits(self):
        long = [(0, 2000), (1, 1), (2, 1)]
        self.check(counts.product_order, [long], wrong_counts(), [SMALL], bound("counts"))
        self.check(counts.product_order, [long, SMALL], wrong_counts(), [], bound("others"))

    def test_rare(self):
        wrong = {name: value for name, value in wrong_lists().items() if name not in ("empty list", "empty tuple")}
        self.check(spreads.spread_by_steps, [SMALL], wrong, [], bound("rare"))

    def test_many(self):
        for bits in (1, 4, 12):
            self.check(spreads.order_of_steps, [bits], wrong_integers(0, 2 ** bits), [], bound("many"))

    def test_wrong_by_name(self):
        self.assertEqual(told(counts.by_rests, bits=0, numbers=0), bound("numbers"))
        self.assertEqual(told(counts.by_product, bits=0, numbers=SMALL), bound("bits"))
        self.assertEqual(told(counts.product_order, others=1, counts=1, numbers=SMALL), bound("counts"))
        self.assertEqual(told(spreads.spread_by_steps, rare=1, counts=1), bound("counts"))
        self.assertEqual(told(spreads.spread_by_steps, rare=1, counts=SMALL), bound("rare"))
        self.assertEqual(told(spreads.order_of_steps, many=-1, bits=13), bound("bits"))
        self.assertEqual(told(spreads.order_of_steps, many=-1, bits=12), bound("many"))

    def test_truth_values_within_lists(self):
        self.assertEqual(told(counts.numbers_of, [0, True]), text_error(1))
        self.assertEqual(told(counts.numbers_of, [False]), text_error(0))
        for wrong in ([(0, True), (1, 1)], [(False, 1), (1, 1)], [(0, 1), (True, 1)]):
            for action in (spreads.spread_by_steps, spreads.spread_by_runs, spreads.spread_by_bits):
                self.assertEqual(told(action, wrong), bound("counts"))
            self.assertEqual(told(counts.by_rests, wrong, 1), bound("numbers"))
            self.assertEqual(told(counts.product_order, [(0, 1), (1, 1)], wrong, wrong), bound("counts"))
        self.assertEqual(told(spreads.spread_by_steps, [(0, 1), (1, 1)], [True]), bound("rare"))

    def test_limits_come_last(self):
        self.assertEqual(told(counts.by_rests, SMALL, 1), limit(2))
        self.assertEqual(told(counts.by_product, SMALL, 12), limit(8))
        self.assertEqual(told(counts.product_order, [(0, 2001)], [(0, 2)], [(0, 4)]), limit(2000))

    def test_only_stated_errors(self):
        stated = (errors.InvalidText, errors.InvalidBound, errors.LimitExceeded)
        for action, arguments in FAILURES:
            with self.subTest(name=action.__name__):
                self.assertIn(type(raised(action, *arguments)), stated)


if __name__ == "__main__":
    unittest.main()
