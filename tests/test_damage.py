"""Points 31 to 35: changed streams, what readers find, where they meet, and turned bits."""

import random
import unittest

from spreadstates.coding import read, write
from spreadstates.damage import changed, first_unseen, harm, meeting, meeting_bits, turn_counts, verdict
from spreadstates.tables import Table
from tests.definitions import lists_of_bits, places_of, read_by_definition, readings_of, small_spreads, streams_of
from tests.definitions import drawn_spread, great_spreads, texts_of, width_of, write_by_definition
from tests.samples import SPREAD, bound, limit, nested, stream_error, told, wrong_items

SMALL = Table(SPREAD)
STREAM = [0, 1, 0, 1, 0, 0, 0]
SEVERAL = [spread for spread in small_spreads() if len(set(spread)) > 1]


def changes_of(stream):
    """All changes of a stream."""
    many = len(stream)
    found = [(word, at) for word in ("turn", "drop") for at in range(many)]
    return found + [("put", at, bit) for at in range(many + 1) for bit in (0, 1)]


def changed_by_definition(stream, change):
    found = list(stream)
    if change[0] == "turn":
        found[change[1]] = 1 - found[change[1]]
    elif change[0] == "drop":
        del found[change[1]]
    else:
        found.insert(change[1], change[2])
    return found


def verdict_by_definition(spread, stream, many, last):
    """The verdict, by reading more and more symbols."""
    if read_by_definition(spread, stream, 0) is None:
        return ("head",)
    for symbols in range(1, many + 1):
        if read_by_definition(spread, stream, symbols) is None:
            return ("short", symbols - 1)
    _, state, used, _ = read_by_definition(spread, stream, many)
    if used < len(stream):
        return ("left", used)
    return ("good",) if last in (None, state) else ("end", state)


def harm_by_definition(spread, stream, change, many, last):
    other = changed_by_definition(stream, change)
    one, two = readings_of(spread, stream, many), readings_of(spread, other, many)
    symbols = [[spread[state] for state, _ in readings[:-1]] for readings in (one, two)]
    first = None
    for at, (here, there) in enumerate(zip(*symbols)):
        if here != there and first is None:
            first = at
    meetings = [(i, j) for i, here in enumerate(one) for j, there in enumerate(two) if here == there]
    return verdict_by_definition(spread, other, many, last), first, meetings[0] if meetings else None


def meeting_by_definition(spread, stream, one, other):
    here, there = (places_of(spread, state, stream, 10 ** 6) for state in (one, other))
    found = [(i, there.index(place)) for i, place in enumerate(here) if place in there]
    return found[0] if found else None


def meeting_bits_by_definition(spread, most):
    for stream in lists_of_bits(most):
        if len({places_of(spread, state, stream, 10 ** 6)[-1] for state in range(len(spread))}) == 1:
            return stream
    return None


class Changes(unittest.TestCase):
    def test_example(self):
        self.assertEqual(changed([0, 1], ("put", 2, 0)), [0, 1, 0])

    def test_first_and_last_places(self):
        self.assertEqual(changed(STREAM, ("turn", 0)), [1, 1, 0, 1, 0, 0, 0])
        self.assertEqual(changed(STREAM, ("turn", 6)), [0, 1, 0, 1, 0, 0, 1])
        self.assertEqual(changed(STREAM, ("turn", 3)), [0, 1, 0, 0, 0, 0, 0])
        self.assertEqual(changed(STREAM, ("drop", 0)), [1, 0, 1, 0, 0, 0])
        self.assertEqual(changed(STREAM, ("drop", 1)), [0, 0, 1, 0, 0, 0])
        self.assertEqual(changed(STREAM, ("drop", 6)), [0, 1, 0, 1, 0, 0])
        self.assertEqual(changed(STREAM, ("put", 0, 1)), [1, 0, 1, 0, 1, 0, 0, 0])
        self.assertEqual(changed(STREAM, ("put", 1, 1)), [0, 1, 1, 0, 1, 0, 0, 0])
        self.assertEqual(changed(STREAM, ("put", 7, 1)), [0, 1, 0, 1, 0, 0, 0, 1])
        self.assertEqual(changed([], ("put", 0, 1)), [1])
        self.assertEqual(changed([1], ("drop", 0)), [])

    def test_all_changes(self):
        for stream in lists_of_bits(6):
            for change in changes_of(stream):
                before = list(stream)
                found = changed(stream, change)
                self.assertEqual(found, changed_by_definition(stream, change))
                self.assertEqual(stream, before)
                self.assertIsNot(found, stream)

    def test_what_is_no_change(self):
        for many in (0, 1, 2, 7):
            stream = STREAM[:many]
            wrong = [(word, at) for word in ("turn", "drop") for at in (-1, many, many + 1, 10 ** 40, -10 ** 40)]
            wrong += [("put", at, 0) for at in (-1, many + 1, 10 ** 40)]
            wrong += [("put", 0, 2), ("put", 0, -1), ("put", 0, True), ("put", 0, False), ("put", 0, None), ("put", 0)]
            wrong += [("turn", 0, 0), ("drop", 0, 1), ("turn",), ("put", 0, 1, 1), (), ["turn", 0], "turn", ("Turn", 0)]
            wrong += [("turn ", 0), ("", 0), (b"turn", 0), (0, "turn"), (0, 0), ("swap", 0), ["put", 0, 1], ("put", 0, [1])]
            wrong += [("turn", True), ("turn", False), ("drop", False), ("put", False, 1), ("turn", [0]), (["turn"], 0)]
            for change in wrong:
                with self.subTest(change=repr(change)[:40], many=many):
                    self.assertEqual(told(changed, stream, change), bound("change"))
        for name, value in wrong_items().items():
            for change in (value, ("turn", value), ("drop", value), (value, 0), ("put", 0, value), ("put", value, 0)):
                with self.subTest(name=name):
                    self.assertEqual(told(changed, STREAM, change), bound("change"))


class Verdicts(unittest.TestCase):
    def test_example(self):
        self.assertEqual(verdict(SMALL, [0, 1, 0, 1, 0, 0], 2), ("short", 1))

    def test_each_verdict(self):
        for last in (None, 0):
            self.assertEqual(verdict(SMALL, STREAM, 2, last), ("good",))
            self.assertEqual(verdict(SMALL, STREAM + [0, 1], 2, last), ("left", 7))
            self.assertEqual(verdict(SMALL, STREAM[:6], 2, last), ("short", 1))
            self.assertEqual(verdict(SMALL, STREAM[:3], 2, last), ("short", 0))
            self.assertEqual(verdict(SMALL, STREAM[:2], 2, last), ("head",))
            self.assertEqual(verdict(SMALL, [], 0, last), ("head",))
        self.assertEqual(verdict(SMALL, STREAM, 2, 5), ("end", 0))
        self.assertEqual(verdict(SMALL, STREAM, 2, last=7), ("end", 0))
        self.assertEqual(verdict(SMALL, [1, 0, 1], 0, 5), ("good",))
        self.assertEqual(verdict(SMALL, [1, 0, 1], 0, 4), ("end", 5))
        self.assertEqual(verdict(SMALL, [1, 0, 1, 1], 0, 4), ("left", 3))

    def test_all_lists_of_bits(self):
        for spread in small_spreads()[::2] + [SPREAD]:
            table = Table(spread)
            for stream in lists_of_bits(6):
                for many in (0, 1, 2, 5):
                    for last in (None, 0, len(spread) - 1):
                        expected = verdict_by_definition(spread, stream, many, last)
                        self.assertEqual(verdict(table, stream, many, last), expected)

    def test_each_number_of_bits_less_and_more(self):
        for spread in great_spreads()[::3]:
            draw = random.Random(len(spread))
            text = [draw.choice(spread) for _ in range(6)]
            stream = write(Table(spread), text, 1)
            for many in range(len(stream)):
                found = verdict(Table(spread), stream[:many], 6, 1)
                self.assertEqual(found, verdict_by_definition(spread, stream[:many], 6, 1))
                self.assertIn(found[0], ("head", "short"))
            self.assertEqual(verdict(Table(spread), stream, 6, 1), ("good",))
            self.assertEqual(verdict(Table(spread), stream, 6, 0), ("end", 1))
            for more in range(1, 14):
                self.assertEqual(verdict(Table(spread), stream + [1] * more, 6, 1), ("left", len(stream)))

    def test_ten_thousand_symbols(self):
        text = [draw for draw in (0, 1, 0, 0, 2)] * 2000
        stream = write(SMALL, text, 3)
        self.assertEqual(verdict(SMALL, stream, 10000, 3), ("good",))
        self.assertEqual(verdict(SMALL, stream[:-1], 10000, 3)[0], "short")
        self.assertEqual(told(verdict, SMALL, stream, 10001), bound("many"))

    def test_kinds(self):
        for stream, last in ((STREAM, None), (STREAM, 3), (STREAM[:2], None), (STREAM[:6], None), (STREAM + [1], None)):
            found = verdict(SMALL, stream, 2, last)
            self.assertIs(type(found), tuple)
            self.assertEqual([type(part) for part in found], [str, int][:len(found)])


class Harms(unittest.TestCase):
    def test_example(self):
        self.assertEqual(harm(SMALL, STREAM, ("turn", 0), 2, 0), (("end", 4), 0, None))

    def test_all_changes_of_short_texts(self):
        for spread in small_spreads()[::3] + [SPREAD]:
            table = Table(spread)
            many = 3 if len(set(spread)) < 4 and len(spread) < 8 else 2
            for text in texts_of(spread, many)[:40]:
                stream = write_by_definition(spread, text, len(spread) // 2)
                for change in changes_of(stream):
                    for last in (None, len(spread) // 2):
                        expected = harm_by_definition(spread, stream, change, many, last)
                        self.assertEqual(harm(table, stream, change, many, last), expected)

    def test_long_texts(self):
        draw = random.Random(33)
        for spread in small_spreads()[::4] + great_spreads()[2:40:9]:
            table = Table(spread)
            text = [draw.choice(spread) for _ in range(40)]
            stream = write(table, text, 1)
            for change in draw.sample(changes_of(stream), min(12, 2 * len(stream))):
                self.assertEqual(harm(table, stream, change, 40, 1), harm_by_definition(spread, stream, change, 40, 1))

    def test_bits_that_are_the_same_although_they_are_dropped(self):
        # Of several equal bits, it does not tell which one is dropped: those behind the first one are the same.
        stream = write(SMALL, [0, 0, 2, 1, 2, 2], 0)
        runs = [at for at in range(1, len(stream)) if stream[at] == stream[at - 1]]
        self.assertTrue(runs)
        for at in runs:
            self.assertEqual(harm(SMALL, stream, ("drop", at), 6), harm(SMALL, stream, ("drop", at - 1), 6))
            found = harm(SMALL, stream, ("put", at, stream[at]), 6)
            self.assertEqual(found, harm(SMALL, stream, ("put", at + 1, stream[at]), 6))

    def test_one_symbol(self):
        table = Table([7] * 4)
        self.assertEqual(harm(table, [0, 1], ("turn", 0), 5, 1), (("end", 3), None, None))
        self.assertEqual(harm(table, [0, 1], ("drop", 0), 5, 1), (("head",), None, None))
        self.assertEqual(harm(table, [0, 1], ("put", 0, 0), 5, 1), (("left", 2), None, None))
        self.assertEqual(harm(table, [1, 1], ("put", 0, 1), 5, 3), (("left", 2), None, None))
        self.assertEqual(harm(table, [0, 1], ("put", 0, 1), 0), (("left", 2), None, None))

    def test_facts(self):
        for spread in SEVERAL[::3]:
            table = Table(spread)
            for text in texts_of(spread, 3)[::3]:
                stream = write(table, text, 0)
                for change in changes_of(stream):
                    found, _, met = harm(table, stream, change, 3, 0)
                    other = changed(stream, change)
                    if met is not None:
                        one, two = readings_of(spread, stream, 3), readings_of(spread, other, 3)
                        here = [spread[state] for state, _ in one[met[0]:-1]]
                        there = [spread[state] for state, _ in two[met[1]:-1]]
                        many = min(len(here), len(there))
                        self.assertEqual(here[:many], there[:many])
                    if change[0] == "turn" and harm(table, stream, change, 3)[0] == ("good",):
                        self.assertNotEqual(read(table, other, 3)[:2], (text, 0))

    def test_streams_that_are_not_right(self):
        for change in (("turn", 0), ("drop", 5), ("put", 3, 1)):
            self.assertEqual(told(harm, SMALL, STREAM + [1], change, 2), stream_error(7))
            self.assertEqual(told(harm, SMALL, STREAM[:6], change, 2, 0), stream_error(6))
        self.assertEqual(told(harm, SMALL, STREAM, ("turn", 0), 1), stream_error(4))
        self.assertEqual(told(harm, SMALL, STREAM, ("turn", 0), 3), stream_error(7))
        self.assertEqual(told(harm, SMALL, [1, 1], ("turn", 0), 0), stream_error(2))
        self.assertEqual(told(harm, SMALL, [], ("put", 0, 1), 0), stream_error(0))
        # Whether a reader expects another end does not count for the stream itself.
        self.assertEqual(harm(SMALL, STREAM, ("turn", 0), 2, 4), (("good",), 0, None))

    def test_errors_in_their_order(self):
        self.assertEqual(told(harm, None, [2], None, -1, -1), bound("table"))
        self.assertEqual(told(harm, SMALL, [1, 2], None, -1, -1), stream_error(1))
        self.assertEqual(told(harm, SMALL, STREAM[:2], None, -1, -1), bound("change"))
        self.assertEqual(told(harm, SMALL, STREAM[:2], ("turn", 2), 2, 0), bound("change"))
        self.assertEqual(told(harm, SMALL, STREAM[:2], ("turn", 1), -1, -1), bound("many"))
        self.assertEqual(told(harm, SMALL, STREAM[:2], ("turn", 1), 2, 8), bound("last"))
        self.assertEqual(told(harm, SMALL, STREAM[:2], ("turn", 1), 2, 7), stream_error(2))

    def test_kinds(self):
        found = harm(SMALL, [0, 0, 0, 1], ("put", 3, 1), 2)
        self.assertEqual(found, (("left", 4), None, (0, 2)))
        self.assertEqual([type(found)] + [type(part) for part in found], [tuple, tuple, type(None), tuple])
        self.assertEqual([type(part) for part in harm(SMALL, STREAM, ("turn", 0), 2)[1:]], [int, type(None)])


class Meetings(unittest.TestCase):
    def test_examples(self):
        self.assertEqual(meeting(SMALL, [], 0, 3), (0, 1))
        self.assertEqual(meeting_bits(Table([0, 0, 1, 1]), 12), [0, 0])

    def test_all_pairs_of_states(self):
        for spread in SEVERAL[::2] + [SPREAD]:
            table = Table(spread)
            for stream in list(lists_of_bits(5))[::1 if len(spread) < 16 else 5]:
                for one in range(len(spread)):
                    for other in range(len(spread)):
                        expected = meeting_by_definition(spread, stream, one, other)
                        self.assertEqual(meeting(table, stream, one, other), expected)

    def test_longer_lists(self):
        draw = random.Random(34)
        for seed in range(60):
            spread = drawn_spread(seed, draw.randrange(1, 7), 2 + draw.randrange(3) if seed % 2 else 2)
            if len(set(spread)) > 1:
                stream = [draw.randrange(2) for _ in range(draw.randrange(40))]
                for _ in range(20):
                    one, other = draw.randrange(len(spread)), draw.randrange(len(spread))
                    expected = meeting_by_definition(spread, stream, one, other)
                    self.assertEqual(meeting(Table(spread), stream, one, other), expected)

    def test_one_symbol(self):
        for stream in ([], [0, 1, 1]):
            self.assertEqual(meeting(Table([7] * 4), stream, 2, 2), (0, 0))
            self.assertIsNone(meeting(Table([7] * 4), stream, 2, 1))

    def test_many_symbols_without_bits(self):
        table = Table([0] * 4095 + [1])
        self.assertEqual(meeting(table, [], 4094, 3), (4091, 0))
        self.assertEqual(meeting(table, [], 3, 4094), (0, 4091))
        self.assertEqual(meeting(table, [], 4094, 4095), None)
        # The state 4095 reads 12 bits; the others go round with one bit each, by 4095 symbols, down to the state 0.
        self.assertEqual(meeting(table, [0] * 12, 4095, 5), (1, 5 + 12 * 4095))
        self.assertEqual(meeting(table, [0] * 12, 5, 4095), (5 + 12 * 4095, 1))
        self.assertIsNone(meeting(table, [0] * 11, 4095, 5))
        self.assertEqual(meeting(table, [0] * 20000, 4094, 0), (4094, 0))

    def test_errors(self):
        self.assertEqual(told(meeting, None, [2], -1, -1), bound("table"))
        self.assertEqual(told(meeting, SMALL, [2], -1, -1), stream_error(0))
        self.assertEqual(told(meeting, SMALL, [], 8, -1), bound("one"))
        self.assertEqual(told(meeting, SMALL, [], 7, 8), bound("other"))
        self.assertEqual(told(meeting, Table([7] * 4), [], 4, 3), bound("one"))

    def test_bits_against_all_lists(self):
        for spread in SEVERAL + [SPREAD, [0, 1], [0, 0, 1, 1, 2, 2, 3, 3]]:
            most = 7 if len(spread) < 16 else 5
            for bits in range(most + 1) if len(spread) < 8 else (most - 1, most):
                self.assertEqual(meeting_bits(Table(spread), bits), meeting_bits_by_definition(spread, bits))

    def test_bits_where_many_are_needed(self):
        # Each of these needs just so many bits; with one less there is no list.
        found = 0
        for seed in range(120):
            spread = drawn_spread(seed, 2 + seed % 3, 2 + seed % 2)
            if len(set(spread)) == 1:
                continue
            stream = meeting_bits(Table(spread), 12)
            if stream is not None:
                found += len(stream) > 8
                self.assertEqual(meeting_bits(Table(spread), len(stream)), stream)
                self.assertIsNone(meeting_bits(Table(spread), len(stream) - 1))
                ends = {places_of(spread, state, stream, 10 ** 6)[-1] for state in range(len(spread))}
                self.assertEqual(len(ends), 1)
        self.assertGreater(found, 3)

    def test_bits_where_there_are_none(self):
        for most in range(13):
            for bits in (1, 2, 3, 4):
                self.assertIsNone(meeting_bits(Table([5] * 2 ** bits), most))
        self.assertIsNone(meeting_bits(SMALL, 0))
        self.assertIsNone(meeting_bits(Table(SPREAD), 1))

    def test_bits_limits(self):
        self.assertIsNotNone(meeting_bits(Table(list(range(16))), 12))
        self.assertEqual(meeting_bits(Table(list(range(16))), 12), [0, 0, 0, 0])
        self.assertEqual(told(meeting_bits, Table(list(range(16)) * 2), 12), limit(16))
        self.assertEqual(told(meeting_bits, Table([1] * 32), 12), limit(16))
        self.assertEqual(told(meeting_bits, Table([1] * 32), 13), bound("most"))
        for most in (-1, 13, True, None, "1"):
            self.assertEqual(told(meeting_bits, SMALL, most), bound("most"))


class Turned(unittest.TestCase):
    def counted(self, spread, many):
        """The four numbers, and the first unseen turns without and with the end."""
        told_as = {"short": 0, "left": 0, "end": 0, "good": 0}
        unseen = [None, None]
        for stream, _, end in streams_of(spread, many):
            for at in range(len(stream)):
                other = changed_by_definition(stream, ("turn", at))
                told_as[verdict_by_definition(spread, other, many, end)[0]] += 1
                for known, last in enumerate((None, end)):
                    if unseen[known] is None and verdict_by_definition(spread, other, many, last) == ("good",):
                        unseen[known] = (stream, at)
        return tuple(told_as.values()), unseen

    def test_examples(self):
        self.assertEqual(turn_counts(Table([0, 1]), 1), (0, 0, 4, 4))
        self.assertEqual(first_unseen(SMALL, 1, False), ([0, 0, 0, 0], 1))

    def test_all_right_streams(self):
        for spread in small_spreads() + [SPREAD]:
            for many in range(4):
                if len(spread) * len(set(spread)) ** many <= (300 if many < 3 else 80):
                    numbers, unseen = self.counted(spread, many)
                    self.assertEqual(turn_counts(Table(spread), many), numbers)
                    self.assertEqual(first_unseen(Table(spread), many, False), unseen[0])
                    self.assertEqual(first_unseen(Table(spread), many, True), unseen[1])

    def test_all_bits_are_counted(self):
        for spread in small_spreads():
            for many in (0, 1, 2):
                bits = sum(len(stream) for stream, _, _ in streams_of(spread, many))
                self.assertEqual(sum(turn_counts(Table(spread), many)), bits)

    def test_no_symbols(self):
        self.assertEqual(turn_counts(SMALL, 0), (0, 0, 24, 0))
        self.assertEqual(first_unseen(SMALL, 0, False), ([0, 0, 0], 0))
        self.assertIsNone(first_unseen(SMALL, 0, True))

    def test_one_symbol(self):
        self.assertEqual(turn_counts(Table([7] * 1024), 64), (0, 0, 10240, 0))
        self.assertEqual(first_unseen(Table([7] * 1024), 64, False), ([0] * 10, 0))
        self.assertIsNone(first_unseen(Table([7] * 1024), 64, True))

    def test_limits(self):
        # 2 * 2 ** 9, 4 * 5 ** 3 and so on are kept; 2000 itself is 16 * 5 ** 3.
        table = Table([0] * 12 + [1, 2, 3, 4])
        self.assertEqual(len(streams_of([0] * 12 + [1, 2, 3, 4], 3)), 2000)
        self.assertIsNone(told(turn_counts, table, 3))
        self.assertIsNone(told(first_unseen, table, 3, True))
        for action, more in ((turn_counts, ()), (first_unseen, (True,)), (first_unseen, (False,))):
            self.assertEqual(told(action, table, 4, *more), limit(2000))
            self.assertEqual(told(action, Table([0] * 11 + [1, 2, 3, 4, 5]), 3, *more), limit(2000))
            self.assertEqual(told(action, Table([7] * 2048), 0, *more), limit(2000))
            self.assertIsNone(told(action, Table([7] * 1024), 64, *more))
            self.assertEqual(told(action, Table([7] * 2048), 65, *more), bound("many"))
            self.assertEqual(told(action, SMALL, 64, *more), limit(2000))

    def test_whether_the_end_is_known(self):
        for wrong in (0, 1, None, "True", [], [True], nested(lambda value: [value])):
            self.assertEqual(told(first_unseen, SMALL, 1, wrong), bound("is_end_known"))
            self.assertEqual(told(first_unseen, Table([7] * 4096), 1, wrong), bound("is_end_known"))
            self.assertEqual(told(first_unseen, SMALL, 65, wrong), bound("many"))

    def test_kinds(self):
        found = turn_counts(SMALL, 1)
        self.assertEqual([type(found)] + [type(part) for part in found], [tuple] + [int] * 4)
        found = first_unseen(SMALL, 1, False)
        self.assertEqual([type(found)] + [type(part) for part in found], [tuple, list, int])

    def test_widths(self):
        self.assertEqual([width_of(spread) for spread in ([0, 1], SPREAD)], [1, 3])


if __name__ == "__main__":
    unittest.main()
