"""Which streams there are: how many, in which order, with which chances, and what makes a list of bits one."""

from itertools import accumulate

from spreadstates.checks import check_many, check_stream, is_stream
from spreadstates.coding import check_end, check_reading, check_writing
from spreadstates.errors import InvalidBound
from spreadstates.lengths import MOST_COUNTED, Tally, all_lengths, counted_lengths, falls_in, hops_of, levels_of
from spreadstates.reading import read_on
from spreadstates.tables import check_table, check_work, count_in, reads_of, ways_of
from spreadstates.wholes import bits_of, is_integer, lowest, number_of

# More than all the bits that symbols can cost, for ends that are not reached.
FAR = 10 ** 9


def symbols_in(table, stream):
    """The least and the greatest number of symbols for which a stream is right, or None."""
    check_table(table)
    check_stream(stream)
    at = table.bits()
    if len(ways_of(table)) == 1:
        return (0, None) if len(stream) == at else None
    if len(stream) < at:
        return None
    # A reader goes on as long as there are bits; where some symbols need none, runs of them are read at once.
    runs = runs_of(table)
    rows = reads_of(table) if runs is None else runs
    passed, last, used = read_on(rows, number_of(stream[:at]), stream, at, len(stream), False)
    if used < len(stream):
        return None
    if runs is None:
        return len(passed), len(passed)
    many = sum(passed)
    return many, many + runs[last][0] - 1


def count_streams(table, many, *, begin=None, bits=None, last=None):
    """How many right streams have this beginning, this length and this end, as far as they are not None."""
    check_table(table)
    check_many(many)
    if begin is not None and not is_stream(begin):
        raise InvalidBound("begin")
    check_length(bits)
    check_end(table, last)
    check_work(table, many, MOST_COUNTED)
    told = [] if begin is None else begin
    _, behind = ranges_along(table, told, many)
    if is_whole_within(behind, told):
        return 0
    return streams_in(table, [behind], bits, last)


def streams_ahead(table, stream, many, *, bits=None, last=None):
    """How many right streams with this length and end come ahead of a list of bits."""
    check_reading(table, stream, many)
    check_length(bits)
    check_end(table, last)
    check_work(table, many, MOST_COUNTED)
    ranges, behind = ranges_along(table, stream, many)
    if is_whole_within(behind, stream):
        ranges.append(behind)
    return streams_in(table, ranges, bits, last)


def stream_at(table, many, number, *, bits=None, last=None):
    """The right stream with this length and end of which `number` others come ahead."""
    check_table(table)
    check_many(many)
    check_length(bits)
    check_end(table, last)
    check_work(table, many, MOST_COUNTED)
    tally = Tally(table, many, bits is not None)
    levels = tally.levels(many, last)
    width = table.bits()
    rest = wanted(bits) - width
    if not is_integer(number) or not 0 <= number < tally.number(sum(levels[many]), many, rest):
        raise InvalidBound("number")
    stream = []
    ahead = number
    base = 0
    for left in range(many, -1, -1):
        rows = [(other, tally.number(levels[left][other], left, rest)) for other in range(base, base + (1 << width))]
        state, ahead = falls_in(rows, ahead)
        stream.extend(bits_of(state - base, width))
        _, width, base = reads_of(table)[state]
        rest -= width
    return stream


def state_shares(table, many):
    """The chances, as fractions, that reading `many` symbols of random bits ends in each state."""
    check_table(table)
    check_many(many)
    check_work(table, many, MOST_COUNTED)
    most = max([bits for _, bits, _ in reads_of(table)])
    shares = [1] * table.size()
    for _ in range(many):
        shares = shares_behind(table, shares, most)
    below = 1 << (table.bits() + many * most)
    return [lowest(share, below) for share in shares]


def text_share(table, text):
    """The chance, as a fraction, that the first symbols of random bits are a text."""
    check_writing(table, text)
    check_work(table, len(text), MOST_COUNTED)
    return share_of([(bits, 1) for bits in all_lengths(table, text)])


def share_within(table, many, bits):
    """The chance, as a fraction, that `many` symbols of random bits use at most `bits` bits."""
    check_table(table)
    check_many(many)
    if not is_length(bits):
        raise InvalidBound("bits")
    check_work(table, many, MOST_COUNTED)
    return share_of([(used, number) for used, number in counted_lengths(table, many) if used <= bits])


def completed(table, stream, many, last=None):
    """The shortest and first list of bits that makes a list of bits a right stream, or None."""
    check_reading(table, stream, many)
    check_end(table, last)
    check_work(table, many, MOST_COUNTED)
    _, behind = ranges_along(table, stream, many)
    if is_whole_within(behind, stream):
        return None
    left, low, high, used = behind
    ends = [0 if last is None or state == last else FAR for state in range(table.size())]
    levels = levels_of(hops_of(table, 1), ends, left)
    least = min(levels[left][low:high])
    if least >= FAR:
        return None
    state = levels[left].index(least, low)
    found = bits_of(state - low, used - len(stream))
    for turn in range(left - 1, -1, -1):
        _, bits, base = reads_of(table)[state]
        least -= bits
        state = levels[turn].index(least, base)
        found.extend(bits_of(state - base, bits))
    return found


def idle_runs(table):
    """For each state, how many symbols are read from it on without bits, and the state behind them."""
    runs = []
    for state, (_, bits, base) in enumerate(reads_of(table)):
        if bits > 0:
            runs.append((0, state))
        else:
            # Where there are several symbols, no bits lead to a lesser state: its run is known.
            symbols, behind = runs[base]
            runs.append((symbols + 1, behind))
    return runs


def runs_of(table):
    """For each state, how many symbols are read on by the next bits, how many these are, and their base.

    It is None where all symbols cost bits: no symbol stands in more than half of the states.
    """
    if max([count_in(way) for way in ways_of(table).values()]) * 2 <= table.size():
        return None
    runs = []
    for _, bits, base in reads_of(table):
        if bits > 0:
            runs.append((1, bits, base))
        else:
            # Where there are several symbols, no bits lead to a lesser state: its run is known.
            symbols, more, behind = runs[base]
            runs.append((symbols + 1, more, behind))
    return runs


def ranges_along(table, stream, many):
    """What a list of bits tells of the right streams for `many` symbols.

    It returns a tuple of the ranges of what comes ahead of the list, without its beginnings, and of
    the range of what goes along with it, as far as it can. A range is a tuple (left, low, high,
    used): the states from `low` to `high` - 1, in which `left` symbols are left, and the
    number of bits that are used when one of these states is reached.
    """
    ranges = []
    left = many
    used = 0
    bits, base = table.bits(), 0
    while True:
        told = stream[used:used + bits]
        free = bits - len(told)
        low = base + (number_of(told) << free)
        used += bits
        ranges.append((left, base, low, used))
        if free > 0 or left == 0:
            return ranges, (left, low, low + (1 << free), used)
        _, bits, base = reads_of(table)[low]
        left -= 1


def is_whole_within(behind, stream):
    """Whether what goes along with a list of bits is one right stream that ends ahead of the list's end."""
    return behind[3] < len(stream)


def streams_in(table, ranges, bits, last):
    """How many right streams with this length and end lead through ranges, of which the first has the most left."""
    tally = Tally(table, ranges[0][0], bits is not None)
    level = tally.first_level(last)
    turn = 0
    found = 0
    for left, low, high, used in reversed(ranges):
        while turn < left:
            level = tally.next_level(level)
            turn += 1
        found += tally.number(sum(level[low:high]), left, wanted(bits) - used)
    return found


def shares_behind(table, shares, most):
    """The shares of all states behind one symbol, times 2 ** `most`."""
    changes = [0] * (table.size() + 1)
    for share, (_, bits, base) in zip(shares, reads_of(table)):
        part = share << (most - bits)
        changes[base] += part
        changes[base + (1 << bits)] -= part
    found = list(accumulate(changes))
    return found[:table.size()]


def share_of(rows):
    """The sum of number / 2 ** bits over tuples (bits, number), as a fraction."""
    most = max([bits for bits, _ in rows], default=0)
    return lowest(sum([number << (most - bits) for bits, number in rows]), 1 << most)


def wanted(bits):
    """The length that streams must have; where none is told it does not count."""
    return 0 if bits is None else bits


def is_length(value):
    """Whether a value is an integer from 0 on."""
    return is_integer(value) and value >= 0


def check_length(bits):
    """Raises InvalidBound for what is neither None nor a length."""
    if bits is not None and not is_length(bits):
        raise InvalidBound("bits")
