"""Points 26 to 30: which streams there are, their order, their chances, and what makes a list of bits one."""

import inspect
import random
import unittest
from fractions import Fraction

from spreadstates.coding import read, write
from spreadstates.lengths import extremes, length_counts, lengths
from spreadstates.streams import completed, count_streams, share_within, state_shares, stream_at
from spreadstates.streams import streams_ahead, symbols_in, text_share
from spreadstates.tables import Table
from tests.definitions import digits, drawn_spread, great_spreads, lists_of_bits, read_by_definition, rows_of
from tests.definitions import small_spreads, streams_of, texts_of, width_of
from tests.samples import SPREAD, bound, limit, stream_error, symbol_error, text_error, told
from tests.samples import no_tables, wrong_integers, wrong_items, wrong_streams, wrong_texts

SMALL = Table(SPREAD)
# Tables of one symbol, with and without states that read no bits, even ones, and of all different symbols.
FEW = ([0, 0], [0, 1], [0, 0, 0, 1], [1, 0, 0, 0], [0, 1, 0, 0], [0, 1, 1, 0], [0, 1, 2, 0], [3, 2, 1, 0], [5] * 4, SPREAD)


def some_many(spread, most=300):
    """Numbers of symbols for which there are not too many streams."""
    return [many for many in range(5) if len(spread) * len(set(spread)) ** many <= most]


def drawn_text(seed, spread, many):
    draw = random.Random(seed)
    return [draw.choice(spread) for _ in range(many)]


def right_for(spread, stream, many):
    """Whether reading so many symbols uses all bits and needs no more."""
    found = read_by_definition(spread, stream, many)
    return found is not None and found[2] == len(stream)


def choices(spread, many):
    """Lengths and ends to ask for: None, all that there are, and some that there are not."""
    found = sorted({len(stream) for stream, _, _ in streams_of(spread, many)})
    return [None] + found + [0, found[0] - 1, found[-1] + 1, 10 ** 40], [None] + list(range(len(spread)))


def fraction(value):
    """The pair of a fraction in lowest terms."""
    return value.numerator, value.denominator


class RightStreams(unittest.TestCase):
    def test_examples(self):
        self.assertEqual(symbols_in(SMALL, [0, 0, 0, 1]), (1, 2))
        self.assertIsNone(symbols_in(SMALL, [1, 0, 1, 0]))
        self.assertEqual(symbols_in(Table([7] * 4), [1, 0]), (0, None))

    def test_all_lists_of_bits(self):
        for spread in small_spreads():
            if len(set(spread)) > 1:
                # Each symbol that costs no bits leads to a lesser state, so the 6 bits have fewer symbols than this.
                most = 6 * len(spread) if len(spread) < 16 else 64
                for stream in lists_of_bits(6):
                    right = [many for many in range(most) if right_for(spread, stream, many)]
                    found = symbols_in(Table(spread), stream)
                    self.assertEqual(found, (right[0], right[-1]) if right else None)
                    if right:
                        self.assertEqual(right, list(range(right[0], right[-1] + 1)))

    def test_one_symbol(self):
        for bits in range(1, 13):
            table = Table([4] * 2 ** bits)
            for many in range(15):
                expected = (0, None) if many == bits else None
                self.assertEqual(symbols_in(table, [1] * many), expected)
                self.assertEqual(symbols_in(table, [0] * many), expected)

    def test_states_that_read_no_bits(self):
        # From state 14 on, the symbol 0 is read without bits down to state 1; state 0 reads one bit.
        table = Table([0] * 15 + [1])
        self.assertEqual(table.row(14), (0, 0, 13))
        self.assertEqual(table.row(1), (0, 0, 0))
        self.assertEqual(symbols_in(table, [1, 1, 1, 0]), (0, 14))
        self.assertEqual(symbols_in(table, [0, 0, 0, 0]), (0, 0))
        self.assertEqual(symbols_in(table, [0, 0, 0, 0, 0]), (1, 15))
        self.assertEqual(symbols_in(table, [1, 1, 1, 0, 1]), (15, 15))
        self.assertIsNone(symbols_in(table, [1, 1, 1, 1, 0, 0, 0]))

    def test_streams_that_are_written(self):
        for spread in great_spreads():
            table = Table(spread)
            for many in (0, 1, 50):
                stream = write(table, drawn_text(many, spread, many), 1)
                least, greatest = symbols_in(table, stream)
                self.assertLessEqual(least, many)
                if greatest is None:
                    self.assertEqual(len(set(spread)), 1)
                else:
                    self.assertGreaterEqual(greatest, many)
                    for right in (least, greatest):
                        self.assertEqual(read(table, stream, right)[2], len(stream))
                        self.assertEqual(write(table, *read(table, stream, right)[:2]), stream)
                    self.assertEqual(told(read, table, stream, greatest + 1), stream_error(len(stream)))
                    if least > 0:
                        self.assertLess(read(table, stream, least - 1)[2], len(stream))

    def test_more_symbols_than_a_text_has(self):
        # From the state 4094 on, 4094 symbols cost no bits, and one more leads back to it with the bit 0.
        table = Table([0] * 4095 + [1])
        stream = [1] * 11 + [0] + [0, 0, 0]
        self.assertEqual(symbols_in(table, stream), (3 * 4095, 3 * 4095 + 4094))

    def test_kinds_of_the_result(self):
        found = symbols_in(SMALL, [0, 0, 0, 1])
        self.assertEqual([type(found)] + [type(part) for part in found], [tuple, int, int])

    def test_facts(self):
        for spread in FEW:
            for many in some_many(spread):
                streams = [tuple(stream) for stream, _, _ in streams_of(spread, many)]
                self.assertEqual(len(set(streams)), len(streams))
                most = max(len(stream) for stream in streams)
                known = set(streams)
                for bits in lists_of_bits(min(most, 8)):
                    begins = [at for at in range(len(bits) + 1) if tuple(bits[:at]) in known]
                    goes_on = any(stream[:len(bits)] == tuple(bits) for stream in streams)
                    self.assertLessEqual(len(begins), 1)
                    self.assertTrue(begins or goes_on)

    def test_errors(self):
        for name, value in no_tables().items():
            with self.subTest(name=name):
                self.assertEqual(told(symbols_in, value, [0, 0, 0, 1]), bound("table"))
                self.assertEqual(told(symbols_in, value, None), bound("table"))
        for name, (value, at) in wrong_streams().items():
            with self.subTest(name=name):
                self.assertEqual(told(symbols_in, SMALL, value), stream_error(at))
                self.assertEqual(told(symbols_in, Table([7] * 4), value), stream_error(at))
        self.assertIsNone(symbols_in(SMALL, []))


class NumbersOfStreams(unittest.TestCase):
    def test_examples(self):
        self.assertEqual(count_streams(SMALL, 1, begin=[0]), 7)
        self.assertEqual(count_streams(SMALL, 1, begin=[0], bits=4), 6)

    def test_against_all_lists_of_bits(self):
        for spread in FEW[:9]:
            for many in (0, 1, 2, 3):
                most = width_of(spread) * (many + 1)
                right = [stream for stream in lists_of_bits(most) if right_for(spread, stream, many)]
                self.assertEqual(count_streams(Table(spread), many), len(right))
                self.assertEqual(sorted(right), [stream for stream, _, _ in streams_of(spread, many)])

    def test_each_argument_alone_and_together(self):
        for spread in FEW:
            table = Table(spread)
            for many in some_many(spread, 80):
                streams = streams_of(spread, many)
                lengths_asked, ends = choices(spread, many)
                for begin in [None] + list(lists_of_bits(5)):
                    known = [row for row in streams if begin is None or row[0][:len(begin)] == begin]
                    self.assertEqual(count_streams(table, many, begin=begin), len(known))
                    for bits in lengths_asked:
                        told_bits = [row for row in known if bits is None or len(row[0]) == bits]
                        self.assertEqual(count_streams(table, many, begin=begin, bits=bits), len(told_bits))
                        for last in ends:
                            expected = len([row for row in told_bits if last is None or row[2] == last])
                            found = count_streams(table, many, begin=begin, bits=bits, last=last)
                            self.assertEqual(found, expected)

    def test_ends_alone(self):
        for spread in FEW:
            for many in some_many(spread):
                streams = streams_of(spread, many)
                for last in range(len(spread)):
                    expected = len([row for row in streams if row[2] == last])
                    self.assertEqual(count_streams(Table(spread), many, last=last), expected)

    def test_long_beginnings(self):
        for spread in small_spreads()[::4] + [SPREAD]:
            table = Table(spread)
            many = min(100, 2000 // len(spread))
            text = drawn_text(27, spread, many)
            stream = write(table, text, 1)
            self.assertEqual(count_streams(table, many, begin=stream), 1)
            self.assertEqual(count_streams(table, many, begin=stream, bits=len(stream), last=1), 1)
            self.assertEqual(count_streams(table, many, begin=stream, bits=len(stream) + 1), 0)
            self.assertEqual(count_streams(table, many, begin=stream, last=0), 0)
            self.assertEqual(count_streams(table, many, begin=stream + [0]), 0)
            self.assertEqual(count_streams(table, many, begin=stream + [0] * 10000), 0)
            for at in range(0, len(stream), 7):
                both = [count_streams(table, many, begin=stream[:at] + [bit]) for bit in (0, 1)]
                self.assertEqual(count_streams(table, many, begin=stream[:at]), sum(both))

    def test_facts(self):
        for spread in small_spreads()[::3] + great_spreads()[::4]:
            table = Table(spread)
            many = min(30, 2000 // len(spread))
            symbols = len(set(spread))
            self.assertEqual(count_streams(table, many), len(spread) * symbols ** many)
            self.assertEqual(count_streams(table, many, last=1), symbols ** many)
            for bits, number in length_counts(table, many)[:4]:
                self.assertEqual(count_streams(table, many, bits=bits), number)

    def test_named_alone(self):
        shown = str(inspect.signature(count_streams))
        self.assertEqual(shown, "(table, many, *, begin=None, bits=None, last=None)")
        with self.assertRaises(TypeError):
            count_streams(SMALL, 1, [0])

    def test_errors(self):
        great = Table([0] * 4096)
        for name, value in no_tables().items():
            with self.subTest(name=name):
                self.assertEqual(told(count_streams, value, 1), bound("table"))
                self.assertEqual(told(count_streams, value, -1, begin=1, bits=-1, last=-1), bound("table"))
        for name, value in wrong_integers(0, 10000).items():
            with self.subTest(name=name):
                self.assertEqual(told(count_streams, SMALL, value), bound("many"))
                self.assertEqual(told(count_streams, great, value, last=-1, bits=-1, begin=1), bound("many"))
        for name, (value, _) in wrong_streams().items():
            if value is not None:
                with self.subTest(name=name):
                    self.assertEqual(told(count_streams, SMALL, 1, begin=value), bound("begin"))
                    self.assertEqual(told(count_streams, great, 1, last=-1, bits=-1, begin=value), bound("begin"))
        for name, value in wrong_integers(0, 10 ** 41).items():
            if value is not None and name not in ("too great", "far too great"):
                with self.subTest(name=name):
                    self.assertEqual(told(count_streams, SMALL, 1, bits=value), bound("bits"))
                    self.assertEqual(told(count_streams, great, 1, last=-1, bits=value), bound("bits"))
        for name, value in wrong_integers(0, 7).items():
            if value is not None:
                with self.subTest(name=name):
                    self.assertEqual(told(count_streams, SMALL, 1, last=value), bound("last"))
                    self.assertEqual(told(count_streams, SMALL, 251, begin=[], bits=0, last=value), bound("last"))
        self.assertEqual(told(count_streams, SMALL, 251), limit(2000))
        self.assertEqual(told(count_streams, SMALL, 10000, begin=[1], bits=3, last=7), limit(2000))
        self.assertIsNone(told(count_streams, SMALL, 250))
        self.assertEqual(told(count_streams, great, 1), limit(2000))
        self.assertEqual(count_streams(great, 0), 4096)


class OrderOfStreams(unittest.TestCase):
    def test_examples(self):
        self.assertEqual(stream_at(SMALL, 1, 6), [0, 1, 1])
        self.assertEqual(streams_ahead(SMALL, [1], 1), 7)

    def test_all_streams(self):
        for spread in FEW:
            table = Table(spread)
            for many in some_many(spread, 80):
                streams = streams_of(spread, many)
                lengths_asked, ends = choices(spread, many)
                for bits in lengths_asked:
                    for last in ends:
                        known = [row[0] for row in streams
                                 if (bits is None or len(row[0]) == bits) and (last is None or row[2] == last)]
                        for number, stream in enumerate(known):
                            self.assertEqual(stream_at(table, many, number, bits=bits, last=last), stream)
                            self.assertEqual(streams_ahead(table, stream, many, bits=bits, last=last), number)
                        found = told(stream_at, table, many, len(known), bits=bits, last=last)
                        self.assertEqual(found, bound("number"))

    def test_ahead_of_all_lists_of_bits(self):
        for spread in FEW:
            table = Table(spread)
            for many in some_many(spread, 80):
                streams = streams_of(spread, many)
                lengths_asked, _ = choices(spread, many)
                for bits, last in ((None, None), (lengths_asked[1], None), (None, 1), (lengths_asked[1], 0)):
                    known = [row[0] for row in streams
                             if (bits is None or len(row[0]) == bits) and (last is None or row[2] == last)]
                    for stream in lists_of_bits(7):
                        expected = len([other for other in known if other < stream])
                        self.assertEqual(streams_ahead(table, stream, many, bits=bits, last=last), expected)

    def test_lists_that_are_no_streams(self):
        streams = [row[0] for row in streams_of(SPREAD, 2)]
        for stream in streams:
            for other in (stream[:-1], stream + [0], stream + [1, 1, 0], stream[:2]):
                self.assertEqual(streams_ahead(SMALL, other, 2), len([one for one in streams if one < other]))
        self.assertEqual(streams_ahead(SMALL, [], 2), 0)
        self.assertEqual(streams_ahead(SMALL, [1] * 100, 2), len(streams))
        self.assertEqual(streams_ahead(SMALL, [1] * 100, 2, last=3), 9)

    def test_turned_about(self):
        draw = random.Random(28)
        for spread in small_spreads()[::3] + great_spreads()[::3]:
            table = Table(spread)
            many = min(40, 2000 // len(spread))
            stream = write(table, drawn_text(draw.random(), spread, many), 1)
            for bits, last in ((None, None), (len(stream), None), (None, 1), (len(stream), 1)):
                number = streams_ahead(table, stream, many, bits=bits, last=last)
                self.assertEqual(stream_at(table, many, number, bits=bits, last=last), stream)
                total = count_streams(table, many, bits=bits, last=last)
                self.assertEqual(told(stream_at, table, many, total, bits=bits, last=last), bound("number"))
                for number in {0, total - 1, draw.randrange(total)}:
                    found = stream_at(table, many, number, bits=bits, last=last)
                    self.assertEqual(streams_ahead(table, found, many, bits=bits, last=last), number)

    def test_as_many_symbols_as_can_be(self):
        for spread in ([0, 1], [4, 4], [0, 0, 0, 1], SPREAD):
            table = Table(spread)
            many = 2000 // len(spread)
            stream = write(table, drawn_text(29, spread, many), 1)
            for bits, last in ((None, None), (len(stream), 1)):
                number = streams_ahead(table, stream, many, bits=bits, last=last)
                self.assertEqual(stream_at(table, many, number, bits=bits, last=last), stream)

    def test_named_alone(self):
        self.assertEqual(str(inspect.signature(streams_ahead)), "(table, stream, many, *, bits=None, last=None)")
        self.assertEqual(str(inspect.signature(stream_at)), "(table, many, number, *, bits=None, last=None)")
        with self.assertRaises(TypeError):
            streams_ahead(SMALL, [1], 1, 3)
        with self.assertRaises(TypeError):
            stream_at(SMALL, 1, 6, 3)

    def test_kinds_of_the_results(self):
        self.assertIs(type(stream_at(SMALL, 1, 6)), list)
        self.assertEqual({type(bit) for bit in stream_at(SMALL, 1, 6)}, {int})
        self.assertIs(type(streams_ahead(SMALL, [1], 1)), int)

    def test_errors_of_streams_ahead(self):
        great = Table([0] * 4096)
        for name, value in no_tables().items():
            with self.subTest(name=name):
                self.assertEqual(told(streams_ahead, value, [1], 1), bound("table"))
                self.assertEqual(told(streams_ahead, value, None, None, bits=-1, last=-1), bound("table"))
        for name, (value, at) in wrong_streams().items():
            with self.subTest(name=name):
                self.assertEqual(told(streams_ahead, SMALL, value, 1), stream_error(at))
                self.assertEqual(told(streams_ahead, great, value, -1, last=-1, bits=-1), stream_error(at))
        for name, value in wrong_integers(0, 10000).items():
            with self.subTest(name=name):
                self.assertEqual(told(streams_ahead, SMALL, [1], value), bound("many"))
                self.assertEqual(told(streams_ahead, great, [1], value, last=-1, bits=-1), bound("many"))
        self.check_lengths_and_ends(lambda table, many, **named: told(streams_ahead, table, [1], many, **named))

    def test_errors_of_stream_at(self):
        great = Table([0] * 4096)
        for name, value in no_tables().items():
            with self.subTest(name=name):
                self.assertEqual(told(stream_at, value, 1, 6), bound("table"))
                self.assertEqual(told(stream_at, value, -1, -1, bits=-1, last=-1), bound("table"))
        for name, value in wrong_integers(0, 10000).items():
            with self.subTest(name=name):
                self.assertEqual(told(stream_at, SMALL, value, 0), bound("many"))
                self.assertEqual(told(stream_at, great, value, None, last=-1, bits=-1), bound("many"))
        self.check_lengths_and_ends(lambda table, many, **named: told(stream_at, table, many, 0, **named))
        self.check_lengths_and_ends(lambda table, many, **named: told(stream_at, table, many, None, **named), False)
        for name, value in wrong_integers(0, 23).items():
            with self.subTest(name=name):
                self.assertEqual(told(stream_at, SMALL, 1, value), bound("number"))
                self.assertEqual(told(stream_at, SMALL, 251, value), limit(2000))
                self.assertEqual(told(stream_at, SMALL, 1, value, bits=4, last=-1), bound("last"))
        self.assertEqual(told(stream_at, SMALL, 1, 0, bits=99), bound("number"))
        self.assertEqual(told(stream_at, SMALL, 1, 0, bits=10 ** 900), bound("number"))
        self.assertEqual(told(stream_at, SMALL, 1, 10 ** 900), bound("number"))

    def check_lengths_and_ends(self, action, is_right=True):
        for name, value in wrong_integers(0, 10 ** 41).items():
            if value is not None and name not in ("too great", "far too great"):
                with self.subTest(name=name):
                    self.assertEqual(action(SMALL, 1, bits=value), bound("bits"))
                    self.assertEqual(action(SMALL, 251, last=-1, bits=value), bound("bits"))
        for name, value in wrong_integers(0, 7).items():
            if value is not None:
                with self.subTest(name=name):
                    self.assertEqual(action(SMALL, 1, last=value), bound("last"))
                    self.assertEqual(action(SMALL, 251, bits=4, last=value), bound("last"))
        self.assertEqual(action(SMALL, 251), limit(2000))
        self.assertEqual(action(SMALL, 10000, bits=3, last=7), limit(2000))
        self.assertEqual(action(SMALL, 250), None if is_right else bound("number"))


class Shares(unittest.TestCase):
    def test_examples(self):
        expected = [(11, 64), (11, 64), (7, 64), (7, 64), (7, 64), (7, 64), (7, 64), (7, 64)]
        self.assertEqual(state_shares(SMALL, 1), expected)
        self.assertEqual(text_share(SMALL, [2]), (1, 8))
        self.assertEqual(share_within(SMALL, 1, 4), (5, 8))

    def test_against_all_streams(self):
        for spread in small_spreads():
            table = Table(spread)
            for many in some_many(spread):
                chances = [(Fraction(1, 2 ** len(stream)), len(stream), text, last)
                           for stream, text, last in streams_of(spread, many)]
                ends = [sum(row[0] for row in chances if row[3] == last) for last in range(len(spread))]
                self.assertEqual(state_shares(table, many), [fraction(Fraction(chance)) for chance in ends])
                texts = {}
                for chance, _, text, _ in chances:
                    texts[tuple(text)] = texts.get(tuple(text), 0) + chance
                for text in texts_of(spread, many):
                    self.assertEqual(text_share(table, text), fraction(texts[tuple(text)]))
                for bits in list(range(max(row[1] for row in chances) + 3)) + [10 ** 40]:
                    expected = Fraction(sum(row[0] for row in chances if row[1] <= bits))
                    self.assertEqual(share_within(table, many, bits), fraction(expected))

    def test_against_all_lists_of_bits(self):
        for spread in FEW[:9]:
            for many in (0, 1, 2):
                most = width_of(spread) * (many + 1)
                found = [read_by_definition(spread, stream, many) for stream in lists_of_bits(most) if len(stream) == most]
                every = 2 ** most
                table = Table(spread)
                ends = [[row[1] for row in found].count(last) for last in range(len(spread))]
                self.assertEqual(state_shares(table, many), [fraction(Fraction(end, every)) for end in ends])
                for text in texts_of(spread, many):
                    number = [row[0] for row in found].count(text)
                    self.assertEqual(text_share(table, text), fraction(Fraction(number, every)))
                for bits in range(most + 2):
                    number = len([row for row in found if row[2] <= bits])
                    self.assertEqual(share_within(table, many, bits), fraction(Fraction(number, every)))

    def test_facts(self):
        for spread in small_spreads()[::3] + great_spreads()[::3]:
            table = Table(spread)
            for many in sorted({0, 1, 2, min(25, 2000 // len(spread))}):
                if len(spread) * many <= 2000:
                    shares = state_shares(table, many)
                    self.assertEqual(len(shares), len(spread))
                    self.assertEqual(sum(Fraction(*share) for share in shares), 1)
                    text = drawn_text(30 + many, spread, many)
                    expected = sum(Fraction(1, 2 ** bits) for bits in lengths(table, text))
                    self.assertEqual(text_share(table, text), fraction(expected))
                    greatest = length_counts(table, many)[-1][0]
                    if len(spread) <= 64:
                        self.assertEqual(greatest, extremes(table, many)[1])
                    self.assertEqual(share_within(table, many, greatest), (1, 1))
                    self.assertEqual(share_within(table, many, greatest + 5), (1, 1))
                    self.assertLess(Fraction(*share_within(table, many, greatest - 1)), 1)

    def test_chances_of_all_texts_have_the_sum_1(self):
        for spread in small_spreads():
            for many in some_many(spread):
                chances = [Fraction(*text_share(Table(spread), text)) for text in texts_of(spread, many)]
                self.assertEqual(sum(chances), 1)

    def test_one_symbol(self):
        for bits in range(1, 8):
            table = Table([6] * 2 ** bits)
            self.assertEqual(state_shares(table, 9), [(1, 2 ** bits)] * 2 ** bits)
            self.assertEqual(text_share(table, [6] * 9), (1, 1))
            self.assertEqual(share_within(table, 9, bits - 1), (0, 1))
            self.assertEqual(share_within(table, 9, bits), (1, 1))

    def test_no_symbols(self):
        for spread in small_spreads() + great_spreads():
            table = Table(spread)
            bits = width_of(spread)
            self.assertEqual(state_shares(table, 0), [(1, len(spread))] * len(spread))
            self.assertEqual(text_share(table, []), (1, 1))
            self.assertEqual(share_within(table, 0, bits - 1), (0, 1))
            self.assertEqual(share_within(table, 0, bits), (1, 1))

    def test_kinds_of_the_results(self):
        for share in state_shares(SMALL, 3) + [text_share(SMALL, [0, 1]), share_within(SMALL, 2, 5), share_within(SMALL, 2, 0)]:
            self.assertEqual([type(share)] + [type(part) for part in share], [tuple, int, int])
        self.assertIs(type(state_shares(SMALL, 3)), list)

    def test_errors(self):
        great = Table([0] * 4096)
        for name, value in no_tables().items():
            with self.subTest(name=name):
                self.assertEqual(told(state_shares, value, 1), bound("table"))
                self.assertEqual(told(state_shares, value, -1), bound("table"))
                self.assertEqual(told(text_share, value, [0]), bound("table"))
                self.assertEqual(told(text_share, value, None), bound("table"))
                self.assertEqual(told(share_within, value, 1, 4), bound("table"))
                self.assertEqual(told(share_within, value, -1, -1), bound("table"))
        for name, value in wrong_integers(0, 10000).items():
            with self.subTest(name=name):
                self.assertEqual(told(state_shares, SMALL, value), bound("many"))
                self.assertEqual(told(state_shares, great, value), bound("many"))
                self.assertEqual(told(share_within, great, value, -1), bound("many"))
                self.assertEqual(told(share_within, bits=3, many=value, table=SMALL), bound("many"))
        for name, value in wrong_integers(0, 10 ** 41).items():
            if name not in ("too great", "far too great"):
                with self.subTest(name=name):
                    self.assertEqual(told(share_within, SMALL, 1, value), bound("bits"))
                    self.assertEqual(told(share_within, SMALL, 251, value), bound("bits"))
        for name, (value, at) in wrong_texts().items():
            with self.subTest(name=name):
                self.assertEqual(told(text_share, SMALL, value), text_error(at))
        self.assertEqual(told(text_share, SMALL, [0, 4, 3]), symbol_error(4))
        self.assertEqual(told(text_share, SMALL, [0] * 300 + [4]), symbol_error(4))

    def test_limits(self):
        for bits in range(1, 13):
            table = Table([0, 1] * 2 ** (bits - 1))
            most = 2000 // 2 ** bits
            self.assertIsNone(told(state_shares, table, most))
            self.assertIsNone(told(text_share, table, [1] * most))
            self.assertIsNone(told(share_within, table, most, 3))
            self.assertEqual(told(state_shares, table, most + 1), limit(2000))
            self.assertEqual(told(text_share, table, [1] * (most + 1)), limit(2000))
            self.assertEqual(told(share_within, table, most + 1, 3), limit(2000))


class Completed(unittest.TestCase):
    def test_examples(self):
        self.assertEqual(completed(SMALL, [1], 2), [0, 0, 0])
        self.assertEqual(completed(SMALL, [1], 2, last=5), [0, 0, 1])
        self.assertEqual(told(completed, SMALL, [0, 2], 1), stream_error(1))

    def test_all_lists_of_bits(self):
        for spread in FEW:
            table = Table(spread)
            for many in some_many(spread, 250):
                streams = streams_of(spread, many)
                for begin in lists_of_bits(6):
                    for last in [None] + list(range(len(spread))):
                        known = [row[0][len(begin):] for row in streams
                                 if row[0][:len(begin)] == begin and (last is None or row[2] == last)]
                        expected = min(known, key=lambda bits: (len(bits), bits), default=None)
                        self.assertEqual(completed(table, begin, many, last), expected)
                        if last is None:
                            self.assertEqual(completed(table, begin, many), expected)

    def test_against_the_order_of_lists(self):
        # Lists are tried from the shortest one on, without looking at which streams there are.
        for spread in FEW[:9]:
            for many in (0, 1, 2):
                for begin in lists_of_bits(4):
                    expected = None
                    for behind in lists_of_bits(width_of(spread) * (many + 1)):
                        if right_for(spread, begin + behind, many):
                            expected = behind
                            break
                    self.assertEqual(completed(Table(spread), begin, many), expected)

    def test_right_streams_need_no_more(self):
        for spread in small_spreads() + great_spreads()[::3]:
            table = Table(spread)
            many = min(20, 2000 // len(spread))
            stream = write(table, drawn_text(31, spread, many), 1)
            self.assertEqual(completed(table, stream, many), [])
            self.assertEqual(completed(table, stream, many, 1), [])
            self.assertIsNone(completed(table, stream, many, 0))
            self.assertIsNone(completed(table, stream + [0], many))
            self.assertIsNone(completed(table, stream + [1, 0, 1], many, 1))

    def test_long_ones(self):
        for spread in ([0, 1], SPREAD, [0, 0, 0, 1], [0] * 15 + [1], drawn_spread(32, 6, 9)):
            table = Table(spread)
            many = 2000 // len(spread)
            stream = write(table, drawn_text(33, spread, many), 1)
            for at in (0, 1, 2, len(stream) // 2, len(stream) - 1):
                for last in (None, 1, 0):
                    more = completed(table, stream[:at], many, last)
                    if more is not None:
                        whole = stream[:at] + more
                        text, end, used = read(table, whole, many)
                        self.assertEqual((len(text), used), (many, len(whole)))
                        self.assertIn(last, (None, end))
                        self.assertEqual(count_streams(table, many, begin=stream[:at], bits=len(whole), last=last) > 0, True)
                        self.assertEqual(count_streams(table, many, begin=stream[:at], bits=len(whole) - 1, last=last), 0)
                        begin = stream_at(table, many, streams_ahead(
                            table, stream[:at], many, bits=len(whole), last=last), bits=len(whole), last=last)
                        self.assertEqual(begin, whole)

    def test_ends_that_are_not_reached(self):
        # One symbol leads from a state back to it, so the end is the beginning.
        table = Table([3, 3, 3, 3])
        self.assertEqual(completed(table, [1], 5), [0])
        self.assertEqual(completed(table, [1], 5, 3), [1])
        self.assertIsNone(completed(table, [1], 5, 0))
        self.assertEqual(completed(table, [], 500, 2), [1, 0])
        self.assertIsNone(completed(table, [0, 1, 0], 5))
        # From state 2 = 010, the symbol 0 leads to 6 or 7 alone.
        self.assertIsNone(completed(SMALL, [0, 1, 0], 1, 5))
        self.assertEqual(completed(SMALL, [0, 1, 0], 1, 7), [1])

    def test_no_symbols(self):
        for spread in small_spreads():
            bits = width_of(spread)
            self.assertEqual(completed(Table(spread), [], 0), [0] * bits)
            self.assertEqual(completed(Table(spread), [1], 0), [0] * (bits - 1))
            self.assertEqual(completed(Table(spread), [], 0, 1), digits(1, bits))
            self.assertIsNone(completed(Table(spread), [0] * (bits + 1), 0))

    def test_the_list_is_not_changed(self):
        stream = [1]
        found = completed(SMALL, stream, 2)
        found.append(1)
        self.assertEqual(stream, [1])
        self.assertEqual(completed(SMALL, stream, 2), [0, 0, 0])
        self.assertEqual({type(bit) for bit in found}, {int})

    def test_errors(self):
        great = Table([0] * 4096)
        for name, value in no_tables().items():
            with self.subTest(name=name):
                self.assertEqual(told(completed, value, [1], 2), bound("table"))
                self.assertEqual(told(completed, value, None, None, -1), bound("table"))
        for name, (value, at) in wrong_streams().items():
            with self.subTest(name=name):
                self.assertEqual(told(completed, SMALL, value, 2), stream_error(at))
                self.assertEqual(told(completed, great, value, -1, -1), stream_error(at))
        for name, value in wrong_integers(0, 10000).items():
            with self.subTest(name=name):
                self.assertEqual(told(completed, SMALL, [1], value), bound("many"))
                self.assertEqual(told(completed, great, [1], value, -1), bound("many"))
        for name, value in wrong_integers(0, 7).items():
            if value is not None:
                with self.subTest(name=name):
                    self.assertEqual(told(completed, SMALL, [1], 2, value), bound("last"))
                    self.assertEqual(told(completed, SMALL, [1], 251, last=value), bound("last"))
        self.assertEqual(told(completed, SMALL, [1], 251), limit(2000))
        self.assertEqual(told(completed, SMALL, [0] * 100, 10000, 7), limit(2000))
        self.assertIsNone(told(completed, SMALL, [1], 250))
        self.assertEqual(told(completed, great, [], 1), limit(2000))
        self.assertEqual(completed(great, [1], 0), [0] * 11)


class Rows(unittest.TestCase):
    def test_no_bits_lead_to_a_lesser_state(self):
        for spread in small_spreads() + great_spreads():
            if len(set(spread)) > 1:
                for state, (_, bits, base) in enumerate(rows_of(spread)):
                    self.assertTrue(bits > 0 or base < state)

    def test_wrong_items_are_no_bits(self):
        for item in wrong_items().values():
            self.assertEqual(told(symbols_in, SMALL, [0, 1, item]), stream_error(2))


if __name__ == "__main__":
    unittest.main()
