"""Writing texts as streams of bits, and reading them."""

from spreadstates.checks import check_many, check_stream, check_symbols, check_text, is_stream
from spreadstates.errors import InvalidBound, InvalidStream
from spreadstates.tables import check_state, check_table
from spreadstates.wholes import bits_of, number_of

SCALE = 16


def write(table, text, last=0):
    """The stream of a text whose reading ends in the state `last`."""
    check_writing(table, text)
    check_state(table, last, "last")
    passed, state = written(table, text, last)
    passed.append((state, table.bits()))
    return laid(passed)


def read(table, stream, many):
    """The tuple (text, last, used) of reading `many` symbols."""
    check_reading(table, stream, many)
    passed, last, used = passed_in(table, stream, many)
    return [symbol for _, symbol, _, _ in passed], last, used


def steps(table, stream, many):
    """The tuples (state, symbol, bits, number) that reading goes through."""
    check_reading(table, stream, many)
    passed, _, _ = passed_in(table, stream, many)
    return passed


def read_whole(table, stream, many, last=None):
    """The text alone, of a stream of which all bits are used, and which ends in `last` if it is not None."""
    check_reading(table, stream, many)
    check_end(table, last)
    passed, end, used = passed_in(table, stream, many)
    check_used(stream, used)
    if last is not None and last != end:
        raise InvalidBound("last")
    return [symbol for _, symbol, _, _ in passed]


def cut(table, stream, many):
    """The two streams of the first `many` symbols, and of all that follows."""
    check_reading(table, stream, many)
    _, last, used = passed_in(table, stream, many)
    return stream[:used], bits_of(last, table.bits()) + stream[used:]


def joined(table, first, many, second):
    """The stream for all symbols of two streams, of which the second one begins where the first one ends."""
    check_reading(table, first, many)
    _, last, used = passed_in(table, first, many)
    check_used(first, used)
    width = table.bits()
    if not is_stream(second) or second[:width] != bits_of(last, width):
        raise InvalidBound("second")
    return first + second[width:]


def deltas(table):
    """The tuple (rows, order) with which fast programs write."""
    check_table(table)
    rows = []
    order = []
    for symbol, (_, _, places) in table.ways.items():
        count = len(places)
        # The logarithm of count - 1, rounded down, is one less than its number of bits.
        most = table.bits() if count == 1 else table.bits() + 1 - (count - 1).bit_length()
        rows.append((symbol, (most << SCALE) - (count << most), len(order) - count))
        order.extend(places)
    return rows, order


def written(table, text, last):
    """What writing goes through from `last` on, and the state that is reached at last.

    There is a tuple (whole, bits) for each symbol, from the last one to the first one: its bits are
    the lowest `bits` ones of `whole`.
    """
    size = table.size()
    ways = table.ways
    passed = []
    state = last
    for symbol in reversed(text):
        edge, wide, places = ways[symbol]
        whole = size + state
        bits = wide if whole >= edge else wide - 1
        passed.append((whole, bits))
        state = places[(whole >> bits) - len(places)]
    return passed, state


def laid(passed):
    """The stream of tuples (whole, bits) that are told from the last one to the first one."""
    # Bits are laid from the last one to the first one, too, and then turned about.
    stream = []
    for whole, bits in passed:
        for at in range(bits):
            stream.append(whole >> at & 1)
    stream.reverse()
    return stream


def number_at(stream, at, bits):
    """The number that some bits of a stream make; InvalidStream if there are too few."""
    if at + bits > len(stream):
        raise InvalidStream(len(stream))
    return number_of(stream[at:at + bits])


def passed_in(table, stream, many):
    """The tuple (steps, last, used) of reading; InvalidStream if there are too few bits."""
    return passed_from(table, number_at(stream, 0, table.bits()), stream, table.bits(), many)


def passed_from(table, first, stream, begin, many):
    """What `passed_in` returns, for reading on from the bit `begin` of a stream in the state `first`."""
    reads = table.reads
    state = first
    at = begin
    end = len(stream)
    passed = []
    for _ in range(many):
        symbol, bits, base = reads[state]
        number = 0
        for bit in stream[at:at + bits]:
            number = 2 * number + bit
        at += bits
        if at > end:
            raise InvalidStream(end)
        passed.append((state, symbol, bits, number))
        state = base + number
    return passed, state, at


def places_in(table, stream, many):
    """The tuples (state, used) of a reader who reads `many` symbols, or as many as there are bits for.

    There is one for the first state, and one behind each symbol; none if there are no bits for a state.
    """
    if table.bits() > len(stream):
        return []
    return places_from(table, number_of(stream[:table.bits()]), stream, table.bits(), many)


def places_from(table, first, stream, begin, many):
    """What `places_in` returns, for reading on from the bit `begin` of a stream in the state `first`."""
    reads = table.reads
    state = first
    at = begin
    places = [(state, at)]
    for _ in range(many):
        _, bits, base = reads[state]
        if at + bits > len(stream):
            return places
        number = 0
        for bit in stream[at:at + bits]:
            number = 2 * number + bit
        state = base + number
        at += bits
        places.append((state, at))
    return places


def check_writing(table, text):
    """Raises the errors of a table and a text that is to be written by it."""
    check_table(table)
    check_text(text)
    check_symbols(text, table.ways)


def check_reading(table, stream, many):
    """Raises the errors of a table, a stream and a number of symbols, as far as nothing is read."""
    check_table(table)
    check_stream(stream)
    check_many(many)


def check_end(table, last):
    """Raises InvalidBound for what is neither None nor a state of a table."""
    if last is not None:
        check_state(table, last, "last")


def check_used(stream, used):
    """Raises InvalidStream with the index of the first bit that is left."""
    if used < len(stream):
        raise InvalidStream(used)
