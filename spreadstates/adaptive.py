"""Tables that follow the text: each block has a table for what stands ahead of it."""

from itertools import accumulate
from math import factorial

from spreadstates.checks import LONGEST_TEXT, check_bits, check_flag, check_many, check_stream, check_symbols
from spreadstates.checks import check_text, check_within
from spreadstates.coding import bits_along, check_used, number_at, spent_on, written
from spreadstates.counts import shares_of
from spreadstates.errors import LimitExceeded
from spreadstates.spreads import laid_by_steps, places_by_steps, runs_of
from spreadstates.tables import lay_rows, way_of
from spreadstates.wholes import lowest

LEAST_SIZE = 2
MOST_SIZE = 256
MOST_WORK = 200000
LONGEST_TRIED = 200
MOST_BLOCK_TRIED = 64
MOST_BITS_TRIED = 6


def adaptive_counts(text, size, block, bits, window=None):
    """The counts of all blocks of a text."""
    check_sized(text, size)
    check_blocks(block, bits, window)
    check_adaptive_work(len(text), size, block, bits)
    found = []
    tally = [1] * size
    for at in range(0, len(text), block):
        found.append(list(enumerate(shares_of(tally, bits))))
        tally = tally_behind(tally, text, at, at + block, window)
    return found


def write_adaptive(text, size, block, bits, *, window=None, is_new=False, last=0):
    """The stream of a text whose blocks have tables that follow the text."""
    check_sized(text, size)
    check_blocks(block, bits, window)
    check_flag(is_new, "is_new")
    check_within(last, 0, (1 << bits) - 1, "last")
    check_adaptive_work(len(text), size, block, bits)
    steps = places_by_steps(1 << bits, 0)
    tables = []
    tally = [1] * size
    for at in range(0, len(text), block):
        tables.append(PartTable(shares_of(tally, bits), steps))
        tally = tally_behind(tally, text, at, at + block, window)
    # All is told from the last symbol to the first one here, as it is written.
    numbers = []
    widths = []
    state = last
    for at in range(len(tables) - 1, -1, -1):
        part = text[at * block:(at + 1) * block]
        states, spent = written(tables[at].ways_for(part), 1 << bits, part, last if is_new else state)
        state = states[-1]
        numbers += states if is_new else states[:-1]
        widths += spent + [bits] if is_new else spent
    if not is_new:
        numbers.append(state)
        widths.append(bits)
    return bits_along(numbers[::-1], widths[::-1])


def read_adaptive(stream, many, size, block, bits, *, window=None, is_new=False):
    """The text and the last states of a stream whose blocks have tables that follow the text."""
    check_stream(stream)
    check_many(many)
    check_within(size, LEAST_SIZE, MOST_SIZE, "size")
    check_blocks(block, bits, window)
    check_flag(is_new, "is_new")
    check_adaptive_work(many, size, block, bits)
    steps = places_by_steps(1 << bits, 0)
    turns = laid_by_steps(list(range(1 << bits)))
    text = []
    lasts = []
    tally = [1] * size
    used = 0
    state = 0
    if not is_new:
        state = number_at(stream, 0, bits)
        used = bits
    for at in range(0, many, block):
        if is_new:
            state = number_at(stream, used, bits)
            used += bits
        table = PartTable(shares_of(tally, bits), steps)
        part, state, used = table.text_from(turns, state, stream, used, min(block, many - at))
        text += part
        lasts.append(state)
        tally = tally_behind(tally, text, at, at + block, window)
    check_used(stream, used)
    return text, lasts if is_new else [state]


def adaptive_chance(text, size):
    """The chance of a text, as a fraction, if each symbol had the share of its number so far."""
    check_sized(text, size)
    check_tried(text)
    above = 1
    for symbol in range(size):
        above = above * factorial(text.count(symbol))
    below = 1
    for ahead in range(len(text)):
        below = below * (size + ahead)
    return lowest(above, below)


def best_block(text, size, bits, most):
    """The least length over blocks of 1 to `most` symbols, and the least such block."""
    check_sized(text, size)
    check_bits(bits)
    check_within(most, 1, MOST_BLOCK_TRIED, "most")
    check_tried(text)
    if bits > MOST_BITS_TRIED:
        raise LimitExceeded(MOST_BITS_TRIED)
    check_room(size, bits)
    steps = places_by_steps(1 << bits, 0)
    tables = []
    tally = [1] * size
    for symbol in text:
        tables.append(PartTable(shares_of(tally, bits), steps))
        tally[symbol] += 1
    return min([(bits + blocks_cost(tables, text, block, 1 << bits), block) for block in range(1, most + 1)])


class PartTable:
    """The table of the spread by steps for some counts, of which only the symbols that are met are worked out.

    `steps` has the states as the steps reach them.
    """

    def __init__(self, shares, steps):
        self.shares = shares
        self.ends = list(accumulate(shares))
        self.steps = steps
        self.ways = {}

    def ways_for(self, text):
        """The ways of the symbols of a text, perhaps with others."""
        for symbol in text:
            if symbol not in self.ways:
                end = self.ends[symbol]
                places = sorted(self.steps[end - self.shares[symbol]:end])
                self.ways[symbol] = way_of(places, len(self.steps))
        return self.ways

    def text_from(self, turns, first, stream, begin, many):
        """The text of `many` symbols from a state and a bit of a stream on, the state and the bit behind them.

        `turns` tells for each state how many others the steps reach before.
        """
        runs = runs_of(list(enumerate(self.shares)))
        rows = {}
        text = []
        state = first
        at = begin
        for _ in range(many):
            if state not in rows:
                met = runs[turns[state]]
                ways = self.ways_for([met])
                lay_rows(rows, met, ways[met], len(turns))
            symbol, bits, base = rows[state]
            state = base + number_at(stream, at, bits)
            at += bits
            text.append(symbol)
        return text, state, at


def blocks_cost(tables, text, block, size):
    """The bits of a text in blocks; there is a table for each symbol, for what stands ahead of it."""
    total = 0
    state = 0
    for at in list(range(0, len(text), block))[::-1]:
        part = text[at:at + block]
        bits, state = spent_on(tables[at].ways_for(part), size, part, state)
        total += bits
    return total


def tally_behind(tally, text, at, behind, window):
    """The numbers for the block that begins at `behind`, from those for the block that begins at `at`."""
    found = list(tally)
    for symbol in text[at:behind]:
        found[symbol] += 1
    if window is not None:
        for symbol in text[max(0, at - window):max(0, behind - window)]:
            found[symbol] -= 1
    return found


def check_sized(text, size):
    """Raises the errors of a text of the symbols 0 to `size` - 1."""
    check_text(text)
    check_within(size, LEAST_SIZE, MOST_SIZE, "size")
    check_symbols(text, {symbol: True for symbol in range(size)})


def check_blocks(block, bits, window):
    """Raises InvalidBound for what are no blocks, bits or window."""
    check_within(block, 1, LONGEST_TEXT, "block")
    check_bits(bits)
    if window is not None:
        check_within(window, 0, LONGEST_TEXT, "window")


def check_room(size, bits):
    """Raises LimitExceeded if there are more symbols than states."""
    if size > 1 << bits:
        raise LimitExceeded(1 << bits)


def check_adaptive_work(many, size, block, bits):
    """Raises LimitExceeded if there are more symbols than states, or too many states in all blocks."""
    check_room(size, bits)
    if (many + block - 1) // block << bits > MOST_WORK:
        raise LimitExceeded(MOST_WORK)


def check_tried(text):
    """Raises LimitExceeded for a text that is too long to be tried in all ways."""
    if len(text) > LONGEST_TRIED:
        raise LimitExceeded(LONGEST_TRIED)
