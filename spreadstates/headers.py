"""Headers that tell counts in few bits, packed texts, and escapes for other symbols."""

from spreadstates.checks import MOST_BITS, MOST_SYMBOLS
from spreadstates.checks import check_bits, check_counts, check_many, check_stream, check_text, check_within
from spreadstates.checks import are_bits, first_wrong, is_symbol, sum_of
from spreadstates.coding import bits_along, check_used, laid, number_at, read_many, spent_on
from spreadstates.coding import written
from spreadstates.counts import numbers_of
from spreadstates.errors import InvalidBound, InvalidHeader, InvalidStream, InvalidSymbol, LimitExceeded
from spreadstates.makers import counts_by_rests, table_by_steps, ways_by_steps
from spreadstates.spreads import places_by_steps
from spreadstates.tables import check_state, check_table, reads_of, way_back, ways_of

SIZE_BITS = 4
GROUP_BITS = 2
FULL_GROUP = 3
WIDEST = 10


def header_of(counts):
    """The header of counts."""
    check_counts(counts)
    numbers, widths = parts_of(counts)
    return bits_along(numbers, widths)


def read_header(stream, at=0):
    """The counts that a header tells which begins at a bit of a stream, and the number of the bit behind it."""
    check_header_bits(stream)
    check_within(at, 0, len(stream), "at")
    return header_at(stream, at)


def pack(text, bits, last=0):
    """The header of the counts by rests for a text, and behind it the stream of the text."""
    numbers = numbers_of(text)
    check_bits(bits)
    check_within(last, 0, (1 << bits) - 1, "last")
    check_room(numbers, bits)
    counts = counts_by_rests(numbers, bits)
    told, widths = parts_of(counts)
    size = 1 << bits
    states, spent = written(ways_by_steps(counts, places_by_steps(size, 0)), size, text, last)
    spent.append(bits)
    return bits_along(told + states[::-1], widths + spent[::-1])


def unpack(stream, many):
    """The text of `many` symbols behind a header, and its last state."""
    check_header_bits(stream)
    check_many(many)
    counts, at = header_at(stream, 0)
    table = table_by_steps(counts)
    text, last, used = read_many(table, stream, at, many, False)
    check_used(stream, used)
    return text, last


def shortest_pack(text, most):
    """The least length of a packed text for 1 to `most` bits, and the least number of bits that has it."""
    numbers = numbers_of(text)
    check_within(most, 1, MOST_BITS, "most")
    check_room(numbers, most)
    return min([(packed_length(numbers, text, bits), bits)
                for bits in range(1, most + 1) if len(numbers) <= 1 << bits])


def write_escaped(table, text, escape, width, last=0):
    """The stream of a text in which an escape stands for all symbols that the table has not, and for itself."""
    check_table(table)
    check_text(text)
    check_escape(table, escape, width)
    check_state(table, last, "last")
    for symbol in text:
        if needs_escape(table, symbol, escape) and symbol >> width > 0:
            raise InvalidSymbol(symbol)
    passed = []
    state = last
    for symbol in reversed(text):
        is_escaped = needs_escape(table, symbol, escape)
        state, bits, number = way_back(table, escape if is_escaped else symbol, state)
        passed.append((number, bits))
        if is_escaped:
            passed.append((symbol, width))
    passed.append((state, table.bits()))
    return laid(passed)


def read_escaped(table, stream, many, escape, width):
    """The text and the last state of a stream with an escape."""
    check_table(table)
    check_stream(stream)
    check_many(many)
    check_escape(table, escape, width)
    at = table.bits()
    state = number_at(stream, 0, at)
    text = []
    for _ in range(many):
        symbol, bits, base = reads_of(table)[state]
        if symbol == escape:
            symbol = number_at(stream, at, width)
            if symbol >= MOST_SYMBOLS or not needs_escape(table, symbol, escape):
                raise InvalidStream(at)
            at += width
        state = base + number_at(stream, at, bits)
        at += bits
        text.append(symbol)
    check_used(stream, at)
    return text, state


def packed_length(numbers, text, bits):
    """The length of `pack` for a text with these numbers and the last state 0."""
    counts = counts_by_rests(numbers, bits)
    _, widths = parts_of(counts)
    size = 1 << bits
    spent, _ = spent_on(ways_by_steps(counts, places_by_steps(size, 0)), size, text, 0)
    return sum(widths) + bits + spent


def parts_of(counts):
    """The numbers of which the header of counts is made, and how many bits each one has."""
    left = sum_of(counts)
    numbers = [left.bit_length() - 1]
    widths = [SIZE_BITS]
    ahead = -1
    for symbol, count in counts:
        number = count
        many = left + 1
        if symbol > ahead + 1:
            # A count of 0 is always among the short numbers. Full groups are bits of 1, many of them in one number.
            full, rest = divmod(symbol - ahead - 2, FULL_GROUP)
            runs, ones = divmod(GROUP_BITS * full, MOST_BITS)
            numbers += [0] + [(1 << MOST_BITS) - 1] * runs + [(1 << ones) - 1, rest]
            widths += [many.bit_length() - 1] + [MOST_BITS] * runs + [ones, GROUP_BITS]
            number = count - 1
            many = left
        # So many of the least numbers have one bit less than the others.
        width = many.bit_length()
        short = (1 << width) - many
        if number < short:
            numbers.append(number)
            widths.append(width - 1)
        else:
            numbers.append(number + short)
            widths.append(width)
        left -= count
        ahead = symbol
    return numbers, widths


def number_among(stream, at, many):
    """A number of `many` possible ones, that begins at a bit of a stream, and the number of the bit behind it."""
    width = many.bit_length() - 1
    short = (2 << width) - many
    behind = at + width
    number = part_at(stream, at, width)
    if number < short:
        return number, behind
    if behind == len(stream):
        raise InvalidHeader(behind)
    return number + number + stream[behind] - short, behind + 1


def header_at(stream, begin):
    """The counts that the header at a bit tells, and the number of the bit behind it."""
    bits = part_at(stream, begin, SIZE_BITS)
    if not 1 <= bits <= MOST_BITS:
        raise InvalidHeader(begin)
    at = begin + SIZE_BITS
    left = 1 << bits
    counts = []
    symbol = 0
    # Behind groups a count is at least 1, and told by 1 less.
    least = 0
    while left > 0:
        number, behind = number_among(stream, at, left + 1 - least)
        count = number + least
        if symbol == MOST_SYMBOLS - 1 and count < left:
            raise InvalidHeader(at)
        at = behind
        left -= count
        if count > 0:
            counts.append((symbol, count))
            symbol += 1
            least = 0
        else:
            symbol, at = behind_groups(stream, at, symbol + 1)
            least = 1
    return counts, at


def behind_groups(stream, begin, next_symbol):
    """The symbol behind the groups that begin at a bit, and the number of the bit behind them."""
    at = begin
    symbol = next_symbol
    while True:
        group = part_at(stream, at, GROUP_BITS)
        symbol += group
        if symbol >= MOST_SYMBOLS:
            raise InvalidHeader(at)
        at += GROUP_BITS
        if group < FULL_GROUP:
            return symbol, at


def part_at(stream, at, bits):
    """The number that some bits of a header make; InvalidHeader if there are too few."""
    if at + bits > len(stream):
        raise InvalidHeader(len(stream))
    number = 0
    for bit in stream[at:at + bits]:
        number += number + bit
    return number


def needs_escape(table, symbol, escape):
    """Whether a symbol is written as the escape of a table."""
    return symbol == escape or symbol not in ways_of(table)


def check_room(numbers, bits):
    """Raises LimitExceeded if there are more symbols than states."""
    if len(numbers) > 1 << bits:
        raise LimitExceeded(1 << bits)


def check_header_bits(stream):
    """Raises InvalidHeader for what is no list of bits."""
    if not isinstance(stream, list):
        raise InvalidHeader(-1)
    if not are_bits(stream):
        raise InvalidHeader(first_wrong(stream, 1))


def check_escape(table, escape, width):
    """Raises InvalidBound for what is no symbol of a table, and what is no width."""
    if not is_symbol(escape) or escape not in ways_of(table):
        raise InvalidBound("escape")
    check_within(width, 1, WIDEST, "width")
