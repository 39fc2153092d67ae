"""Points 59 to 62: desks, their calls, their stream, and the best last states and names."""

import copy
import inspect
import itertools
import random
import unittest

from spreadstates import desks
from spreadstates.coding import write
from spreadstates.desks import Desk, replayed
from spreadstates.tables import Table
from tests.definitions import before_of, digits, read_by_definition, rows_of
from tests.samples import SPREAD, bound, kinds_of_values, limit, nested, raised, stream_error, told
from tests.samples import wrong_integers, wrong_items, wrong_lists, wrong_streams

FIRST = [("table", "a", SPREAD), ("block", 0, "a", [0, 2]), ("cut", 0, 1)]
OTHER = [0, 0, 1, 1, 2, 2, 2, 2]


class Model:
    """A desk as the document has it: nothing is kept but tables, blocks and the last state."""

    def __init__(self, bits):
        self.bits = bits
        self.spreads = {}
        self.blocks = []
        self.last = 0

    def is_name(self, value):
        return type(value) is str and 1 <= len(value) <= 8 and all(letter in "abcdefghijklmnopqrstuvwxyz" for letter in value)

    def is_number(self, value, least, most):
        return type(value) is int and least <= value <= most

    def is_symbols(self, value):
        return type(value) is list and all(self.is_number(item, 0, 999) for item in value)

    def behind(self, call):
        """The model behind a call, or None if it is not possible."""
        found = copy.deepcopy(self)
        if not (type(call) is tuple and call and type(call[0]) is str and found.changed(*call)):
            return None
        if sum(len(text) for _, text in found.blocks) > 10000:
            return None
        if any(not set(text) <= set(found.spreads[name]) for name, text in found.blocks):
            return None
        return found

    def changed(self, word, *rest):
        many = {"table": 2, "forget": 1, "block": 3, "drop": 1, "cut": 2, "join": 1, "switch": 2, "last": 1}
        return many.get(word) == len(rest) and getattr(self, "do_" + word)(*rest)

    def do_table(self, name, spread):
        if not self.is_name(name) or not self.is_symbols(spread) or len(spread) != 2 ** self.bits:
            return False
        self.spreads[name] = list(spread)
        return True

    def do_forget(self, name):
        if not self.is_name(name) or name not in self.spreads or any(other == name for other, _ in self.blocks):
            return False
        del self.spreads[name]
        return True

    def do_block(self, at, name, text):
        if not self.is_number(at, 0, len(self.blocks)) or not self.is_name(name) or name not in self.spreads:
            return False
        if not self.is_symbols(text) or not text:
            return False
        self.blocks.insert(at, (name, list(text)))
        return True

    def do_drop(self, at):
        if not self.is_number(at, 0, len(self.blocks) - 1):
            return False
        del self.blocks[at]
        return True

    def do_cut(self, at, many):
        if not self.is_number(at, 0, len(self.blocks) - 1) or not self.is_number(many, 1, len(self.blocks[at][1]) - 1):
            return False
        name, text = self.blocks[at]
        self.blocks[at:at + 1] = [(name, text[:many]), (name, text[many:])]
        return True

    def do_join(self, at):
        if not self.is_number(at, 0, len(self.blocks) - 2) or self.blocks[at][0] != self.blocks[at + 1][0]:
            return False
        self.blocks[at:at + 2] = [(self.blocks[at][0], self.blocks[at][1] + self.blocks[at + 1][1])]
        return True

    def do_switch(self, at, name):
        if not self.is_number(at, 0, len(self.blocks) - 1) or not self.is_name(name) or name not in self.spreads:
            return False
        self.blocks[at] = (name, self.blocks[at][1])
        return True

    def do_last(self, state):
        if not self.is_number(state, 0, 2 ** self.bits - 1):
            return False
        self.last = state
        return True

    def streams(self, names=None, last=None):
        """The bits of all blocks, and the states in which they begin, with the last state."""
        state = self.last if last is None else last
        parts, entries = [], [state]
        for at in range(len(self.blocks) - 1, -1, -1):
            rows = rows_of(self.spreads[self.blocks[at][0] if names is None else names[at]])
            stream = []
            for symbol in reversed(self.blocks[at][1]):
                (state, bits, number), = before_of(rows, symbol, state)
                stream = digits(number, bits) + stream
            parts.insert(0, stream)
            entries.insert(0, state)
        return parts, entries

    def stream(self, names=None, last=None):
        parts, entries = self.streams(names, last)
        return digits(entries[0], self.bits) + [bit for part in parts for bit in part]


def drawn_call(draw, model):
    """A call that may be possible, or is wrong by little."""
    names = ["a", "b", "c", "abcdefgh"]
    many = len(model.blocks)
    at = draw.choice([0, many, many - 1, many // 2, draw.randrange(-1, many + 2)])
    symbols = draw.choice([[0, 1], [0, 1, 2], [0, 1, 2], [1, 2, 3]])
    word = draw.choice(["table", "forget", "block", "block", "block", "drop", "cut", "cut", "join", "switch", "last"])
    if word == "table":
        spread = [draw.choice(symbols) for _ in range(2 ** model.bits)]
        return (word, draw.choice(names), spread[:2 ** model.bits - (draw.random() < 0.05)])
    if word == "forget":
        return (word, draw.choice(names))
    if word == "block":
        return (word, at, draw.choice(names), [draw.choice(symbols) for _ in range(draw.randrange(6))])
    if word == "cut":
        return (word, at, draw.choice([1, 1, 2, 3, 0, 5]))
    if word == "switch":
        return (word, at, draw.choice(names))
    if word == "last":
        return (word, draw.choice([0, 1, 2 ** model.bits - 1, 2 ** model.bits]))
    return (word, at)


def check_desk(test, desk, model):
    """Whether a desk has all that the model tells."""
    parts, entries = model.streams()
    test.assertEqual(desk.tables(), [(name, Table(model.spreads[name])) for name in sorted(model.spreads)])
    test.assertEqual(desk.blocks(), model.blocks)
    test.assertEqual(desk.last(), model.last)
    test.assertEqual(desk.written(), model.stream())
    test.assertEqual(desk.length(), len(model.stream()))
    test.assertEqual(desk.costs(), [len(part) for part in parts])
    test.assertEqual(desk.entries(), entries)


class Desks(unittest.TestCase):
    def test_a_new_desk(self):
        for bits in range(1, 13):
            desk = Desk(bits)
            self.assertEqual([desk.tables(), desk.blocks(), desk.last(), desk.calls()], [[], [], 0, []])
            self.assertEqual([desk.written(), desk.length(), desk.costs(), desk.entries()], [[0] * bits, bits, [], [0]])
            self.assertEqual(desk.best_last(), (bits, 0))
            self.assertEqual(desk.best_names(), (bits, []))
            self.assertEqual(desk.read([1] * bits + [0]), ([], 2 ** bits - 1, bits))
            self.assertIs(desk.undo(), False)

    def test_examples(self):
        desk = replayed(3, FIRST)
        self.assertEqual([desk.costs(), desk.entries(), desk.written(), desk.best_last()],
                         [[1, 3], [2, 7, 0], [0, 1, 0, 1, 0, 0, 0], (7, 0)])
        desk = Desk(3)
        self.assertEqual([desk.do(call) for call in FIRST] + [desk.do(("table", "b", OTHER))], [0, 4, 0, 0])
        self.assertEqual(desk.best_names(), (5, ["a", "b"]))
        self.assertEqual(desk.tables(), [("a", Table(SPREAD)), ("b", Table(OTHER))])
        self.assertEqual(desk.blocks(), [("a", [0]), ("a", [2])])

    def test_bits(self):
        for name, value in wrong_integers(1, 12).items():
            with self.subTest(name=name):
                self.assertEqual(told(Desk, value), bound("bits"))
                self.assertEqual(told(Desk, bits=value), bound("bits"))
                self.assertEqual(told(replayed, value, None), bound("bits"))

    def test_interface(self):
        expected = {
            "__init__": "(self, bits)", "tables": "(self)", "blocks": "(self)", "last": "(self)", "do": "(self, call)",
            "calls": "(self)", "undo": "(self)", "written": "(self)", "length": "(self)", "costs": "(self)",
            "entries": "(self)", "read": "(self, stream)", "best_last": "(self)", "best_names": "(self)",
            "__eq__": "(self, other)",
        }
        for name, shown in expected.items():
            self.assertIn(name, vars(Desk))
            self.assertEqual(str(inspect.signature(getattr(Desk, name))), shown)
        self.assertEqual(str(inspect.signature(replayed)), "(bits, calls)")
        self.assertEqual((Desk.__module__, replayed.__module__), (desks.__name__, desks.__name__))
        desk = Desk(bits=3)
        self.assertEqual(desk.do(call=FIRST[0]), 0)
        self.assertEqual(desk.read(stream=[0, 0, 1]), ([], 1, 3))
        self.assertEqual(replayed(bits=3, calls=FIRST), replayed(3, FIRST))

    def test_equality(self):
        desk = replayed(3, FIRST)
        self.assertTrue(desk == replayed(3, FIRST))
        self.assertFalse(desk != replayed(3, FIRST))
        self.assertTrue(Desk(2) == Desk(2))
        self.assertFalse(Desk(2) == Desk(3))
        for call in (("last", 1), ("drop", 0), ("drop", 1), ("join", 0), ("table", "b", OTHER), ("table", "a", OTHER)):
            other = replayed(3, FIRST)
            other.do(call)
            self.assertFalse(desk == other)
            other.undo()
            self.assertTrue(desk == other)
        # The same tables in another order, and other calls, make the same desk.
        one = replayed(3, [("table", "a", SPREAD), ("table", "b", OTHER), ("block", 0, "a", [0]), ("block", 1, "b", [1])])
        other = replayed(3, [("table", "b", SPREAD), ("table", "b", OTHER), ("table", "a", SPREAD), ("block", 0, "b", [1]),
                             ("block", 0, "a", [0]), ("last", 5), ("last", 0)])
        self.assertTrue(one == other)
        self.assertFalse(replayed(3, [("table", "a", SPREAD)]) == replayed(3, [("table", "b", SPREAD)]))
        for value in list(kinds_of_values().values()) + [[], 3, nested(lambda item: [item]), desk.blocks(), desk.written()]:
            if not isinstance(value, Desk):
                self.assertIs(desk == value, False)
                self.assertIs(Desk(2) == value, False)
                self.assertIs(Table([0, 1]) == desk, False)


class Calls(unittest.TestCase):
    def test_drawn_calls(self):
        done = {}
        for seed in range(150):
            draw = random.Random(seed)
            bits = 1 + seed % 4
            desk, model = Desk(bits), Model(bits)
            models, calls = [], []
            for _ in range(25):
                call = drawn_call(draw, model)
                following = model.behind(call)
                before = copy.deepcopy(call)
                if following is None:
                    self.assertEqual(told(desk.do, call), ("InvalidCall", {"call": call}))
                    done[call[0], False] = done.get((call[0], False), 0) + 1
                else:
                    models.append(model)
                    calls.append(call)
                    self.assertEqual(desk.do(call), len(following.stream()) - len(model.stream()))
                    model = following
                    done[call[0], True] = done.get((call[0], True), 0) + 1
                self.assertEqual(call, before)
                check_desk(self, desk, model)
                self.assertEqual(desk.calls(), calls)
            self.assertEqual(replayed(bits, calls), desk)
            check_desk(self, replayed(bits, calls), model)
            while models:
                self.assertIs(desk.undo(), True)
                calls.pop()
                check_desk(self, desk, models[-1])
                models.pop()
                self.assertEqual(desk.calls(), calls)
                self.assertEqual(desk, replayed(bits, calls))
            self.assertIs(desk.undo(), False)
            self.assertEqual(desk, Desk(bits))
        words = ("table", "forget", "block", "drop", "cut", "join", "switch", "last")
        self.assertEqual(sorted(done), sorted((word, is_possible) for word in words for is_possible in (False, True)))

    def test_undo_and_go_on(self):
        draw = random.Random(60)
        desk, model = Desk(3), Model(3)
        models, calls = [], []
        for turn in range(400):
            if draw.random() < 0.3:
                self.assertIs(desk.undo(), bool(models))
                if models:
                    model = models.pop()
                    calls.pop()
            else:
                call = drawn_call(draw, model)
                following = model.behind(call)
                if following is not None:
                    desk.do(call)
                    models.append(model)
                    calls.append(call)
                    model = following
            if turn % 5 == 0:
                check_desk(self, desk, model)
        self.assertEqual(replayed(3, calls), desk)

    def test_first_and_last_places(self):
        desk = replayed(3, [("table", "a", SPREAD), ("block", 0, "a", [0, 1, 2]), ("block", 1, "a", [1]), ("block", 0, "a", [2])])
        model = Model(3)
        for call in desk.calls():
            model = model.behind(call)
        self.assertEqual(desk.blocks(), [("a", [2]), ("a", [0, 1, 2]), ("a", [1])])
        for call in (
            ("block", 0, "a", [0]), ("block", 3, "a", [0]), ("block", 4, "a", [0]), ("block", -1, "a", [0]),
            ("drop", 0), ("drop", 2), ("drop", 3), ("drop", -1), ("cut", 1, 1), ("cut", 1, 2), ("cut", 1, 3), ("cut", 1, 0),
            ("cut", 0, 1), ("cut", 3, 1), ("join", 0), ("join", 1), ("join", 2), ("join", 3), ("join", -1),
            ("switch", 0, "a"), ("switch", 2, "a"), ("switch", 3, "a"), ("switch", 0, "b"), ("last", 7), ("last", 8),
            ("last", -1), ("forget", "a"), ("forget", "b"), ("table", "a", [0] * 8), ("table", "a", [0, 1, 2, 2, 2, 2, 2, 2]),
            ("table", "b", [0] * 8), ("table", "b", [0] * 4), ("table", "b", [0] * 16),
        ):
            other, following = replayed(3, desk.calls()), model.behind(call)
            if following is None:
                self.assertEqual(told(other.do, call), ("InvalidCall", {"call": call}))
                check_desk(self, other, model)
            else:
                other.do(call)
                check_desk(self, other, following)

    def test_what_is_no_call(self):
        desk = replayed(3, FIRST)
        names = ["", "A", "abcdefghi", "a1", "a b", "a_", "1", b"a", None, True, 0, ["a"], ("a",), {"a": 1}, {"a"}]
        names += [nested(lambda value: [value]), nested(lambda value: (value,)), object(), Table, desk, Table([0, 1])]
        wrong = [(), ("table",), ("table", "b"), ("table", "b", OTHER, 1), ("forget",), ("forget", "a", "b"), ("block", 0, "a")]
        wrong += [("block", 0, "a", [0], 1), ("drop",), ("drop", 0, 0), ("cut", 0), ("cut", 0, 1, 1), ("join",), ("join", 0, 1)]
        wrong += [("switch", 0), ("switch", 0, "a", 1), ("last",), ("last", 0, 0), ("undo",), ("Table", "b", OTHER), ("", 0)]
        wrong += [["drop", 0], "drop", ("drop", True), ("drop", False), ("drop", None), ("last", True), ("last", False), ("last", "0")]
        wrong += [("join", False), ("switch", False, "a"), ("cut", False, 1), ("block", False, "a", [0]), (b"drop", 0), (0, "drop")]
        wrong += [("table", name, OTHER) for name in names] + [("forget", name) for name in names]
        wrong += [("block", 0, name, [0]) for name in names] + [("switch", 0, name) for name in names]
        wrong += [("block", 0, "a", []), ("block", 0, "a", (0,)), ("block", 0, "a", [3]), ("block", 0, "a", [True])]
        wrong += [("block", 0, "a", [-1]), ("block", 0, "a", [1000]), ("block", 0, "a", None), ("table", "b", tuple(OTHER))]
        wrong += [("table", "b", OTHER[:7] + [1000]), ("table", "b", OTHER[:7] + [True]), ("table", "b", None)]
        wrong += list(wrong_lists().values())
        for value in wrong_items().values():
            wrong += [(value,), (value, 0), ("drop", value), ("last", value), ("cut", 0, value), ("cut", value, 1), ("join", value)]
            wrong += [("table", "b", value), ("table", "b", OTHER[:7] + [value]), ("forget", value), ("switch", value, "a")]
            wrong += [("block", value, "a", [0]), ("block", 0, "a", [0, value]), ("block", 0, value, [0]), ("switch", 0, value)]
            wrong += [("table", value, OTHER)]
            if value != [1] and value != [0, 2]:
                wrong.append(("block", 0, "a", value))
        before = replayed(3, FIRST)
        for at, call in enumerate(wrong):
            if call == ("table", "text", OTHER):
                continue
            error = raised(desk.do, call)
            with self.subTest(at=at):
                self.assertEqual(type(error).__name__, "InvalidCall")
                self.assertIs(error.call, call)
        self.assertTrue(desk == before)
        self.assertEqual(desk.calls(), FIRST)

    def test_names_that_are_right(self):
        desk = Desk(3)
        for name in ("a", "z", "abcdefgh", "zzzzzzzz", "text"):
            self.assertEqual(desk.do(("table", name, OTHER)), 0)
        self.assertEqual([name for name, _ in desk.tables()], ["a", "abcdefgh", "text", "z", "zzzzzzzz"])

    def test_symbols_that_a_table_has_not(self):
        desk = replayed(3, FIRST + [("table", "b", [0, 0, 0, 0, 1, 1, 1, 1]), ("table", "c", [2] * 8)])
        for call in (("switch", 1, "b"), ("switch", 0, "c"), ("table", "a", [0, 0, 0, 0, 1, 1, 1, 1]), ("block", 0, "b", [0, 2])):
            self.assertEqual(told(desk.do, call), ("InvalidCall", {"call": call}))
        for call in (("switch", 0, "b"), ("switch", 1, "c"), ("table", "a", [2] * 8), ("forget", "a")):
            if call[0] != "forget":
                desk.do(call)
        self.assertEqual(desk.blocks(), [("b", [0]), ("c", [2])])
        self.assertEqual(told(desk.do, ("join", 0))[0], "InvalidCall")
        desk.do(("forget", "a"))
        self.assertEqual([name for name, _ in desk.tables()], ["b", "c"])
        self.assertEqual(told(desk.do, ("forget", "b"))[0], "InvalidCall")
        while desk.undo():
            pass
        self.assertEqual(desk, Desk(3))

    def test_ten_thousand_symbols(self):
        desk = Desk(3)
        desk.do(("table", "a", SPREAD))
        desk.do(("block", 0, "a", [0, 1] * 2500))
        for call in (("block", 0, "a", [0] * 5001), ("block", 1, "a", [0] * 10000), ("block", 0, "a", [0] * 10001)):
            self.assertEqual(told(desk.do, call)[0], "InvalidCall")
        desk.do(("block", 1, "a", [2, 0] * 2500))
        self.assertEqual(told(desk.do, ("block", 1, "a", [0]))[0], "InvalidCall")
        self.assertEqual(desk.do(("join", 0)), 0)
        self.assertEqual(desk.written(), write(Table(SPREAD), [0, 1] * 2500 + [2, 0] * 2500))
        self.assertEqual(told(desk.do, ("block", 0, "a", [0]))[0], "InvalidCall")
        desk.do(("cut", 0, 9999))
        desk.do(("drop", 1))
        desk.do(("block", 0, "a", [1]))
        self.assertEqual(told(desk.do, ("block", 0, "a", [0]))[0], "InvalidCall")
        self.assertEqual(sum(len(text) for _, text in desk.blocks()), 10000)

    def test_lists_that_are_changed_behind_the_call(self):
        spread, text = list(SPREAD), [0, 2, 1]
        calls = [("table", "a", spread), ("block", 0, "a", text)]
        desk = replayed(3, calls)
        expected = (desk.blocks(), desk.tables(), desk.written(), desk.calls())
        spread.append(5)
        spread[0] = 9
        text.clear()
        calls.clear()
        self.assertEqual((desk.blocks(), desk.tables(), desk.written(), desk.calls()), expected)
        self.assertEqual(desk.calls(), [("table", "a", SPREAD), ("block", 0, "a", [0, 2, 1])])
        for found in (desk.calls(), desk.blocks(), desk.written(), desk.costs(), desk.entries(), desk.tables()):
            found.append("more")
            found.reverse()
        for call in desk.calls():
            call[-1].append(9)
        for _, part in desk.blocks():
            part.append(9)
        for part in desk.read(desk.written())[0]:
            part.append(9)
        desk.best_names()[1].append("more")
        self.assertEqual((desk.blocks(), desk.tables(), desk.written(), desk.calls()), expected)
        desk.undo()
        desk.undo()
        self.assertEqual(desk, Desk(3))

    def test_replayed(self):
        for name, value in wrong_lists().items():
            if not isinstance(value, list):
                with self.subTest(name=name):
                    self.assertEqual(told(replayed, 3, value), bound("calls"))
            elif value:
                error = raised(replayed, 3, value)
                self.assertEqual(type(error).__name__, "InvalidCall")
                self.assertIs(error.call, value[0])
        self.assertEqual(replayed(3, []), Desk(3))
        error = raised(replayed, 3, FIRST + [("drop", 2), ("drop", 9)])
        self.assertEqual(error.call, ("drop", 2))

    def test_session_of_the_document(self):
        call = ("forget", "a")
        error = raised(Desk(3).do, call)
        self.assertEqual((type(error).__name__, error.call), ("InvalidCall", ("forget", "a")))

    def test_kinds(self):
        desk = Desk(3)
        self.assertEqual([type(desk.do(call)) for call in FIRST], [int] * 3)
        self.assertEqual([type(item) for item in desk.tables() + desk.blocks() + desk.calls()], [tuple] * 6)
        self.assertEqual([type(desk.last()), type(desk.length())], [int, int])
        for found in (desk.best_last(), desk.best_names(), desk.read(desk.written())):
            self.assertIs(type(found), tuple)


def drawn_desk(seed, bits, blocks, tables=3):
    """A desk with drawn tables and blocks, and its model."""
    draw = random.Random(seed)
    names = ["a", "b", "c", "d"][:tables]
    calls = []
    for name in names:
        spread = [draw.choice([0, 0, 1, 2]) for _ in range(2 ** bits)]
        spread[:min(3, 2 ** bits)] = draw.choice([[0, 1, 2], [2, 1, 0], [0, 1, 1]])[:min(3, 2 ** bits)]
        calls.append(("table", name, spread))
    for _ in range(blocks):
        name = draw.choice(names)
        text = [draw.choice(calls[names.index(name)][2]) for _ in range(draw.randrange(1, 5))]
        calls.append(("block", 0, name, text))
    calls.append(("last", draw.randrange(2 ** bits)))
    model = Model(bits)
    for call in calls:
        model = model.behind(call)
    return replayed(bits, calls), model


class Streams(unittest.TestCase):
    def test_reading(self):
        for seed in range(60):
            desk, model = drawn_desk(seed, 1 + seed % 5, seed % 7)
            stream = desk.written()
            texts = [text for _, text in model.blocks]
            self.assertEqual(desk.read(stream), (texts, model.last, len(stream)))
            self.assertEqual(desk.read(stream + [1, 0]), (texts, model.last, len(stream)))
            for many in range(len(stream)):
                self.assertEqual(told(desk.read, stream[:many]), stream_error(many))
            for other in range(5):
                bits = [random.Random(100 * seed + other).randrange(2) for _ in range(len(stream) + 60)]
                state, used, read = int("".join(map(str, bits[:model.bits])), 2), model.bits, []
                for name, text in model.blocks:
                    front = digits(state, model.bits)
                    part, state, more, _ = read_by_definition(model.spreads[name], front + bits[used:], len(text))
                    read.append(part)
                    used += more - model.bits
                self.assertEqual(desk.read(bits), (read, state, used))

    def test_errors_of_reading(self):
        desk = replayed(3, FIRST)
        for name, (value, at) in wrong_streams().items():
            with self.subTest(name=name):
                self.assertEqual(told(desk.read, value), stream_error(at))
        for many in range(3):
            self.assertEqual(told(desk.read, [0] * many), stream_error(many))
            self.assertEqual(told(Desk(3).read, [0] * many), stream_error(many))

    def test_facts(self):
        for seed in range(40):
            desk, model = drawn_desk(seed, 3, 5)
            before = (desk.written(), desk.length())
            for at, (_, text) in enumerate(model.blocks):
                for many in range(1, len(text)):
                    self.assertEqual(desk.do(("cut", at, many)), 0)
                    self.assertEqual((desk.written(), desk.length()), before)
                    self.assertEqual(desk.do(("join", at)), 0)
                    self.assertEqual((desk.written(), desk.length()), before)
                    self.assertEqual(desk.blocks(), model.blocks)
            for at in range(len(model.blocks)):
                costs, entries = desk.costs(), desk.entries()
                for name in model.spreads:
                    call = ("switch", at, name)
                    if model.behind(call) is not None:
                        desk.do(call)
                        self.assertEqual(desk.costs()[at + 1:], costs[at + 1:])
                        self.assertEqual(desk.entries()[at + 1:], entries[at + 1:])
                        desk.undo()
                desk.do(("block", at, model.blocks[at][0], model.blocks[at][1][:1]))
                self.assertEqual(desk.costs()[at + 1:], costs[at:])
                desk.undo()

    def test_one_table_writes_as_before(self):
        for seed in range(20):
            desk, model = drawn_desk(seed, 4, 6, 1)
            text = [symbol for _, part in model.blocks for symbol in part]
            self.assertEqual(desk.written(), write(Table(model.spreads["a"]), text, model.last))

    def test_best_last(self):
        unlike = 0
        for seed in range(60):
            desk, model = drawn_desk(seed, 1 + seed % 5, seed % 6)
            lengths = [len(model.stream(last=last)) for last in range(2 ** model.bits)]
            self.assertEqual(desk.best_last(), (min(lengths), lengths.index(min(lengths))))
            check_desk(self, desk, model)
            unlike += len(set(lengths)) > 1
        self.assertGreater(unlike, 20)

    def test_best_names(self):
        unlike = set()
        for seed in range(120):
            desk, model = drawn_desk(seed, 1 + seed % 4, seed % 6, 1 + seed % 4)
            rows = []
            for names in itertools.product(sorted(model.spreads), repeat=len(model.blocks)):
                if all(set(text) <= set(model.spreads[name]) for name, (_, text) in zip(names, model.blocks)):
                    rows.append((len(model.stream(names)), list(names)))
            self.assertEqual(desk.best_names(), min(rows))
            check_desk(self, desk, model)
            unlike.add((len([row for row in rows if row[0] == min(rows)[0]]) > 1, len({row[0] for row in rows}) > 1))
        self.assertEqual(unlike, {(True, True), (True, False), (False, True), (False, False)})

    def test_best_names_beyond_the_names_that_are_best_alone(self):
        # A block that is dearer may lead to a state from which those ahead are cheaper.
        found = 0
        for seed in range(300):
            desk, model = drawn_desk(seed, 3, 3, 3)
            alone = []
            state = model.last
            for at in range(len(model.blocks) - 1, -1, -1):
                rows = []
                for name in sorted(model.spreads):
                    if set(model.blocks[at][1]) <= set(model.spreads[name]):
                        rows.append((len(write(Table(model.spreads[name]), model.blocks[at][1], state)), name))
                alone.insert(0, min(rows)[1])
                state = int("".join(map(str, write(Table(model.spreads[alone[0]]), model.blocks[at][1], state)[:3])), 2)
            found += len(model.stream(alone)) > desk.best_names()[0]
        self.assertGreater(found, 3)

    def test_limits(self):
        desk = replayed(12, [("table", "a", [0] * 4095 + [1]), ("block", 0, "a", [0] * 48)])
        self.assertIsNone(told(desk.best_last))
        self.assertIsNone(told(desk.best_names))
        desk.do(("table", "b", [0] * 4095 + [1]))
        self.assertIsNone(told(desk.best_last))
        self.assertEqual(told(desk.best_names), limit(200000))
        desk.undo()
        desk.do(("block", 0, "a", [0]))
        self.assertEqual(told(desk.best_last), limit(200000))
        self.assertEqual(told(desk.best_names), limit(200000))
        desk = replayed(4, [("table", "a", [0] * 16), ("block", 0, "a", [0] * 10000)])
        self.assertIsNone(told(desk.best_last))
        desk = replayed(5, [("table", "a", [0] * 32), ("block", 0, "a", [0] * 6250), ("table", "b", [1] * 32)])
        self.assertIsNone(told(desk.best_last))
        self.assertEqual(told(desk.best_names), limit(200000))
        desk.do(("forget", "b"))
        self.assertEqual(desk.best_names(), (5, ["a"]))
        desk.do(("block", 0, "a", [0]))
        self.assertEqual(told(desk.best_last), limit(200000))
        # The limit is not looked at where there are no symbols.
        self.assertEqual(replayed(12, [("table", "a", [0] * 4096)]).best_names(), (12, []))


if __name__ == "__main__":
    unittest.main()
