"""Headers that tell counts in few bits, packed texts, and escapes for other symbols."""

from spreadstates.checks import MOST_BITS, MOST_SYMBOLS
from spreadstates.checks import check_bits, check_counts, check_many, check_stream, check_text, check_within
from spreadstates.checks import first_wrong, is_symbol, sum_of
from spreadstates.coding import check_used, laid, number_at, passed_from, write
from spreadstates.counts import by_rests, numbers_of
from spreadstates.errors import InvalidBound, InvalidHeader, InvalidStream, InvalidSymbol, LimitExceeded
from spreadstates.lengths import length
from spreadstates.spreads import spread_by_steps
from spreadstates.tables import Table, check_state, check_table, way_back
from spreadstates.wholes import bits_of, number_of

SIZE_BITS = 4
GROUP_BITS = 2
FULL_GROUP = 3
WIDEST = 10


def header_of(counts):
    """The header of counts."""
    check_counts(counts)
    left = sum_of(counts)
    stream = bits_of(left.bit_length() - 1, SIZE_BITS)
    ahead = -1
    for symbol, count in counts:
        gap = symbol - ahead - 1
        if gap > 0:
            stream.extend(bits_among(0, left + 1) + groups_of(gap - 1) + bits_among(count - 1, left))
        else:
            stream.extend(bits_among(count, left + 1))
        left -= count
        ahead = symbol
    return stream


def read_header(stream, at=0):
    """The counts that a header tells which begins at a bit of a stream, and the number of the bit behind it."""
    check_header_bits(stream)
    check_within(at, 0, len(stream), "at")
    return header_at(stream, at)


def pack(text, bits, last=0):
    """The header of the counts by rests for a text, and behind it the stream of the text."""
    numbers = numbers_of(text)
    check_bits(bits)
    check_within(last, 0, (1 << bits) - 1, "last")
    counts = by_rests(numbers, bits)
    return header_of(counts) + write(Table(spread_by_steps(counts)), text, last)


def unpack(stream, many):
    """The text of `many` symbols behind a header, and its last state."""
    check_header_bits(stream)
    check_many(many)
    counts, at = header_at(stream, 0)
    table = Table(spread_by_steps(counts))
    first = number_at(stream, at, table.bits())
    passed, last, used = passed_from(table, first, stream, at + table.bits(), many)
    check_used(stream, used)
    return [symbol for _, symbol, _, _ in passed], last


def shortest_pack(text, most):
    """The least length of a packed text for 1 to `most` bits, and the least number of bits that has it."""
    numbers = numbers_of(text)
    check_within(most, 1, MOST_BITS, "most")
    if len(numbers) > 1 << most:
        raise LimitExceeded(1 << most)
    found = []
    for bits in range(1, most + 1):
        if len(numbers) <= 1 << bits:
            counts = by_rests(numbers, bits)
            found.append((len(header_of(counts)) + length(Table(spread_by_steps(counts)), text), bits))
    return min(found)


def write_escaped(table, text, escape, width, last=0):
    """The stream of a text in which an escape stands for all symbols that the table has not, and for itself."""
    check_table(table)
    check_text(text)
    check_escape(table, escape, width)
    check_state(table, last, "last")
    for symbol in text:
        if needs_escape(table, symbol, escape) and symbol >> width > 0:
            raise InvalidSymbol(symbol)
    passed = []
    state = last
    for symbol in reversed(text):
        is_escaped = needs_escape(table, symbol, escape)
        state, bits, number = way_back(table, escape if is_escaped else symbol, state)
        passed.append((number, bits))
        if is_escaped:
            passed.append((symbol, width))
    passed.append((state, table.bits()))
    return laid(passed)


def read_escaped(table, stream, many, escape, width):
    """The text and the last state of a stream with an escape."""
    check_table(table)
    check_stream(stream)
    check_many(many)
    check_escape(table, escape, width)
    at = table.bits()
    state = number_at(stream, 0, at)
    text = []
    for _ in range(many):
        symbol, bits, base = table.reads[state]
        if symbol == escape:
            symbol = number_at(stream, at, width)
            if symbol >= MOST_SYMBOLS or not needs_escape(table, symbol, escape):
                raise InvalidStream(at)
            at += width
        state = base + number_at(stream, at, bits)
        at += bits
        text.append(symbol)
    check_used(stream, at)
    return text, state


def bits_among(number, many):
    """The bits of a number of `many` possible ones, 0 to many - 1."""
    width, short = shape_among(many)
    if number < short:
        return bits_of(number, width)
    return bits_of(number + short, width + 1)


def number_among(stream, at, many):
    """A number of `many` possible ones, that begins at a bit of a stream, and the number of the bit behind it."""
    width, short = shape_among(many)
    number = part_at(stream, at, width)
    if number < short:
        return number, at + width
    return part_at(stream, at, width + 1) - short, at + width + 1


def shape_among(many):
    """How many bits the least ones of `many` numbers have, and how many numbers have not one bit more."""
    width = many.bit_length() - 1
    return width, (2 << width) - many


def groups_of(many):
    """The groups that tell that so many further symbols have the count 0."""
    full, rest = divmod(many, FULL_GROUP)
    return [1] * (GROUP_BITS * full) + bits_of(rest, GROUP_BITS)


def header_at(stream, begin):
    """The counts that the header at a bit tells, and the number of the bit behind it."""
    bits = part_at(stream, begin, SIZE_BITS)
    if not 1 <= bits <= MOST_BITS:
        raise InvalidHeader(begin)
    at = begin + SIZE_BITS
    left = 1 << bits
    counts = []
    symbol = 0
    # Behind groups a count is at least 1, and told by 1 less.
    least = 0
    while left > 0:
        number, behind = number_among(stream, at, left + 1 - least)
        count = number + least
        if symbol == MOST_SYMBOLS - 1 and count < left:
            raise InvalidHeader(at)
        at = behind
        left -= count
        if count > 0:
            counts.append((symbol, count))
            symbol += 1
            least = 0
        else:
            symbol, at = behind_groups(stream, at, symbol + 1)
            least = 1
    return counts, at


def behind_groups(stream, begin, next_symbol):
    """The symbol behind the groups that begin at a bit, and the number of the bit behind them."""
    at = begin
    symbol = next_symbol
    while True:
        group = part_at(stream, at, GROUP_BITS)
        symbol += group
        if symbol >= MOST_SYMBOLS:
            raise InvalidHeader(at)
        at += GROUP_BITS
        if group < FULL_GROUP:
            return symbol, at


def part_at(stream, at, bits):
    """The number that some bits of a header make; InvalidHeader if there are too few."""
    if at + bits > len(stream):
        raise InvalidHeader(len(stream))
    return number_of(stream[at:at + bits])


def needs_escape(table, symbol, escape):
    """Whether a symbol is written as the escape of a table."""
    return symbol == escape or symbol not in table.ways


def check_header_bits(stream):
    """Raises InvalidHeader for what is no list of bits."""
    if not isinstance(stream, list):
        raise InvalidHeader(-1)
    at = first_wrong(stream, 1)
    if at >= 0:
        raise InvalidHeader(at)


def check_escape(table, escape, width):
    """Raises InvalidBound for what is no symbol of a table, and what is no width."""
    if not is_symbol(escape) or escape not in table.ways:
        raise InvalidBound("escape")
    check_within(width, 1, WIDEST, "width")
