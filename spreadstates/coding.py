"""Writing texts as streams of bits, and reading them."""

from spreadstates.checks import check_known_text, check_many, check_stream, is_stream
from spreadstates.errors import InvalidBound, InvalidStream
from spreadstates.reading import read_on
from spreadstates.tables import check_state, check_table, count_in, reads_of, states_of, ways_of
from spreadstates.wholes import PLACES, bits_of, number_of

SCALE = 16
# A stream of so many bits is put together of words of bits that are made beforehand.
LONG_STREAM = 1500
WORD_BITS = 8


def write(table, text, last=0):
    """The stream of a text whose reading ends in the state `last`."""
    check_writing(table, text)
    check_state(table, last, "last")
    states, widths = written(ways_of(table), table.size(), text, last)
    widths.append(table.bits())
    return bits_along(states[::-1], widths[::-1])


def read(table, stream, many):
    """The tuple (text, last, used) of reading `many` symbols."""
    check_reading(table, stream, many)
    return read_many(table, stream, 0, many, False)


def steps(table, stream, many):
    """The tuples (state, symbol, bits, number) that reading goes through."""
    check_reading(table, stream, many)
    passed, _, _ = read_many(table, stream, 0, many, True)
    return passed


def read_whole(table, stream, many, last=None):
    """The text alone, of a stream of which all bits are used, and which ends in `last` if it is not None."""
    check_reading(table, stream, many)
    check_end(table, last)
    text, end, used = read_many(table, stream, 0, many, False)
    check_used(stream, used)
    if last is not None and last != end:
        raise InvalidBound("last")
    return text


def cut(table, stream, many):
    """The two streams of the first `many` symbols, and of all that follows."""
    check_reading(table, stream, many)
    _, last, used = read_many(table, stream, 0, many, False)
    return stream[:used], bits_of(last, table.bits()) + stream[used:]


def joined(table, first, many, second):
    """The stream for all symbols of two streams, of which the second one begins where the first one ends."""
    check_reading(table, first, many)
    _, last, used = read_many(table, first, 0, many, False)
    check_used(first, used)
    width = table.bits()
    if not is_stream(second) or second[:width] != bits_of(last, width):
        raise InvalidBound("second")
    return first + second[width:]


def deltas(table):
    """The tuple (rows, order) with which fast programs write."""
    check_table(table)
    rows = []
    order = []
    for symbol, way in ways_of(table).items():
        count = count_in(way)
        # The logarithm of count - 1, rounded down, is one less than its number of bits.
        most = table.bits() if count == 1 else table.bits() + 1 - (count - 1).bit_length()
        rows.append((symbol, (most << SCALE) - (count << most), len(order) - count))
        order.extend(states_of(way))
    return rows, order


def written(ways, size, text, last):
    """The states that writing goes through from `last` on, and how many bits each symbol costs.

    Both are told from the last symbol to the first one; the last one of the states is that in which
    the text begins. A symbol is written by the lowest bits of the state ahead of it in this list.
    """
    states = [last]
    widths = []
    state = last
    for symbol in reversed(text):
        edge, wide, fronts = ways[symbol]
        if state < edge:
            wide -= 1
        state = fronts[(size + state) >> wide]
        states.append(state)
        widths.append(wide)
    return states, widths


def spent_on(ways, size, text, last):
    """How many bits a text costs that is written from `last` on, and the state in which it begins."""
    total = 0
    state = last
    for symbol in reversed(text):
        edge, wide, fronts = ways[symbol]
        if state < edge:
            wide -= 1
        total += wide
        state = fronts[(size + state) >> wide]
    return total, state


def bits_along(numbers, widths):
    """The lowest bits of some numbers, of each one as many as its width, at most 13."""
    if sum(widths) < LONG_STREAM:
        return [number >> at & 1 for number, width in zip(numbers, widths) for at in PLACES[width]]
    words = words_by_width()
    stream = []
    for number, width in zip(numbers, widths):
        if width > WORD_BITS:
            width -= WORD_BITS
            stream += words[width][number >> WORD_BITS & ((1 << width) - 1)]
            width = WORD_BITS
        stream += words[width][number & ((1 << width) - 1)]
    return stream


def words_by_width():
    """For each width up to that of a word, the lists of bits of all numbers."""
    words = [[[]]]
    for _ in range(WORD_BITS):
        longer = [word + [bit] for word in words[-1] for bit in (0, 1)]
        words.append(longer)
    return words


def laid(passed):
    """The stream of tuples (number, bits) that are told from the last one to the first one."""
    return [number >> at & 1 for number, bits in reversed(passed) for at in PLACES[bits]]


def number_at(stream, at, bits):
    """The number that some bits of a stream make; InvalidStream if there are too few."""
    if at + bits > len(stream):
        raise InvalidStream(len(stream))
    return number_of(stream[at:at + bits])


def read_many(table, stream, begin, many, is_full):
    """What `read_from` returns for symbols of which the first one is read in the state at the bit `begin`."""
    first = number_at(stream, begin, table.bits())
    return read_from(table, first, stream, begin + table.bits(), many, is_full)


def read_from(table, first, stream, begin, many, is_full):
    """What `read_on` returns for `many` symbols; raises InvalidStream if there are too few bits."""
    passed, last, used = read_on(reads_of(table), first, stream, begin, many, is_full)
    if len(passed) < many:
        raise InvalidStream(len(stream))
    return passed, last, used


def places_in(table, stream, many):
    """The tuples (state, used) of a reader who reads `many` symbols, or as many as there are bits for.

    There is one for the first state, and one behind each symbol; none if there are no bits for a state.
    """
    if table.bits() > len(stream):
        return []
    return places_from(table, number_of(stream[:table.bits()]), stream, table.bits(), many)


def places_from(table, first, stream, begin, many):
    """What `places_in` returns, for reading on from the bit `begin` of a stream in the state `first`."""
    reads = reads_of(table)
    state = first
    at = begin
    places = [(state, at)]
    for _ in range(many):
        _, bits, base = reads[state]
        if at + bits > len(stream):
            return places
        number = 0
        for bit in stream[at:at + bits]:
            number += number + bit
        state = base + number
        at += bits
        places.append((state, at))
    return places


def check_writing(table, text):
    """Raises the errors of a table and a text that is to be written by it."""
    check_table(table)
    check_known_text(text, ways_of(table))


def check_reading(table, stream, many):
    """Raises the errors of a table, a stream and a number of symbols, as far as nothing is read."""
    check_table(table)
    check_stream(stream)
    check_many(many)


def check_end(table, last):
    """Raises InvalidBound for what is neither None nor a state of a table."""
    if last is not None:
        check_state(table, last, "last")


def check_used(stream, used):
    """Raises InvalidStream with the index of the first bit that is left."""
    if used < len(stream):
        raise InvalidStream(used)
