"""Tables that follow the text: each block has a table for what stands ahead of it."""

from math import factorial

from spreadstates.blocks import carried
from spreadstates.checks import LONGEST_TEXT, check_bits, check_flag, check_many, check_stream, check_symbols
from spreadstates.checks import check_text, check_within
from spreadstates.coding import check_used, laid, number_at, passed_from, write
from spreadstates.counts import by_rests
from spreadstates.errors import LimitExceeded
from spreadstates.makers import table_by_steps
from spreadstates.wholes import lowest

LEAST_SIZE = 2
MOST_SIZE = 256
MOST_WORK = 200000
LONGEST_TRIED = 200
MOST_BLOCK_TRIED = 64
MOST_BITS_TRIED = 6


def adaptive_counts(text, size, block, bits, window=None):
    """The counts of all blocks of a text."""
    check_sized(text, size)
    check_blocks(block, bits, window)
    check_adaptive_work(len(text), size, block, bits)
    found = []
    tally = [1] * size
    for at in range(0, len(text), block):
        found.append(by_rests(list(enumerate(tally)), bits))
        tally = tally_behind(tally, text, at, at + block, window)
    return found


def write_adaptive(text, size, block, bits, *, window=None, is_new=False, last=0):
    """The stream of a text whose blocks have tables that follow the text."""
    check_sized(text, size)
    check_blocks(block, bits, window)
    check_flag(is_new, "is_new")
    check_within(last, 0, (1 << bits) - 1, "last")
    check_adaptive_work(len(text), size, block, bits)
    tables = []
    texts = []
    tally = [1] * size
    for at in range(0, len(text), block):
        tables.append(table_by_steps(list(enumerate(tally)), bits))
        texts.append(text[at:at + block])
        tally = tally_behind(tally, text, at, at + block, window)
    if not is_new:
        passed, state = carried(tables, texts, last)
        return laid(passed + [(state, bits)])
    stream = []
    for table, part in zip(tables, texts):
        stream.extend(write(table, part, last))
    return stream


def read_adaptive(stream, many, size, block, bits, *, window=None, is_new=False):
    """The text and the last states of a stream whose blocks have tables that follow the text."""
    check_stream(stream)
    check_many(many)
    check_within(size, LEAST_SIZE, MOST_SIZE, "size")
    check_blocks(block, bits, window)
    check_flag(is_new, "is_new")
    check_adaptive_work(many, size, block, bits)
    text = []
    lasts = []
    tally = [1] * size
    used = 0
    state = 0
    if not is_new:
        state = number_at(stream, 0, bits)
        used = bits
    for at in range(0, many, block):
        if is_new:
            state = number_at(stream, used, bits)
            used += bits
        table = table_by_steps(list(enumerate(tally)), bits)
        passed, state, used = passed_from(table, state, stream, used, min(block, many - at))
        text.extend([symbol for _, symbol, _, _ in passed])
        lasts.append(state)
        tally = tally_behind(tally, text, at, at + block, window)
    check_used(stream, used)
    return text, lasts if is_new else [state]


def adaptive_chance(text, size):
    """The chance of a text, as a fraction, if each symbol had the share of its number so far."""
    check_sized(text, size)
    check_tried(text)
    above = 1
    for symbol in range(size):
        above = above * factorial(text.count(symbol))
    below = 1
    for ahead in range(len(text)):
        below = below * (size + ahead)
    return lowest(above, below)


def best_block(text, size, bits, most):
    """The least length over blocks of 1 to `most` symbols, and the least such block."""
    check_sized(text, size)
    check_bits(bits)
    check_within(most, 1, MOST_BLOCK_TRIED, "most")
    check_tried(text)
    if bits > MOST_BITS_TRIED:
        raise LimitExceeded(MOST_BITS_TRIED)
    check_room(size, bits)
    return min([(len(write_adaptive(text, size, block, bits)), block) for block in range(1, most + 1)])


def tally_behind(tally, text, at, behind, window):
    """The numbers for the block that begins at `behind`, from those for the block that begins at `at`."""
    found = list(tally)
    for symbol in text[at:behind]:
        found[symbol] += 1
    if window is not None:
        for symbol in text[max(0, at - window):max(0, behind - window)]:
            found[symbol] -= 1
    return found


def check_sized(text, size):
    """Raises the errors of a text of the symbols 0 to `size` - 1."""
    check_text(text)
    check_within(size, LEAST_SIZE, MOST_SIZE, "size")
    check_symbols(text, {symbol: True for symbol in range(size)})


def check_blocks(block, bits, window):
    """Raises InvalidBound for what are no blocks, bits or window."""
    check_within(block, 1, LONGEST_TEXT, "block")
    check_bits(bits)
    if window is not None:
        check_within(window, 0, LONGEST_TEXT, "window")


def check_room(size, bits):
    """Raises LimitExceeded if there are more symbols than states."""
    if size > 1 << bits:
        raise LimitExceeded(1 << bits)


def check_adaptive_work(many, size, block, bits):
    """Raises LimitExceeded if there are more symbols than states, or too many states in all blocks."""
    check_room(size, bits)
    if (many + block - 1) // block << bits > MOST_WORK:
        raise LimitExceeded(MOST_WORK)


def check_tried(text):
    """Raises LimitExceeded for a text that is too long to be tried in all ways."""
    if len(text) > LONGEST_TRIED:
        raise LimitExceeded(LONGEST_TRIED)
