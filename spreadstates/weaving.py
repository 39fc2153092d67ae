"""Several states in turns, and several tables: in turns, or by the symbol ahead."""

from spreadstates.checks import check_bits, check_many, check_stream, check_text, check_within
from spreadstates.checks import is_stream, is_symbol
from spreadstates.coding import laid, number_at, places_in
from spreadstates.counts import by_rests, numbers_in, numbers_of
from spreadstates.errors import InvalidBound, InvalidStream, InvalidSymbol
from spreadstates.makers import counts_by_rests, table_by_steps
from spreadstates.tables import Table, check_state, check_table, reads_of, way_back, ways_of
from spreadstates.wholes import is_within

MOST_WOVEN = 8


def write_woven(tables, states, text, lasts=None):
    """The stream of a text with several states in turns, and tables in turns."""
    check_tables(tables)
    check_within(states, 1, MOST_WOVEN, "states")
    check_text(text)
    for at, symbol in enumerate(text):
        check_has(tables[at % len(tables)], symbol)
    if lasts is not None and not are_states(lasts, states, tables[0]):
        raise InvalidBound("lasts")
    fronts = [0] * states if lasts is None else list(lasts)
    passed = []
    for at in range(len(text) - 1, -1, -1):
        turn = at % states
        fronts[turn], bits, number = way_back(tables[at % len(tables)], text[at], fronts[turn])
        passed.append((number, bits))
    width = tables[0].bits()
    return laid(passed + [(state, width) for state in fronts[::-1]])


def read_woven(tables, states, stream, many):
    """The tuple (text, lasts, used) of reading a woven stream."""
    check_tables(tables)
    check_woven(states, stream, many)
    passed, lasts, used = woven_steps(tables, states, stream, many)
    return [symbol for symbol, _, _ in passed], lasts, used


def unwoven(table, states, stream, many):
    """The streams of the states of a woven stream, each with its own symbols alone."""
    check_table(table)
    check_woven(states, stream, many)
    passed, _, _ = woven_steps([table], states, stream, many)
    width = table.bits()
    streams = [stream[turn * width:(turn + 1) * width] for turn in range(states)]
    for at, (_, begin, end) in enumerate(passed):
        streams[at % states].extend(stream[begin:end])
    return streams


def woven(table, streams, many):
    """The woven stream of `many` symbols that some streams have in turns."""
    check_table(table)
    if not isinstance(streams, list) or not 1 <= len(streams) <= MOST_WOVEN:
        raise InvalidBound("streams")
    if not all([is_stream(stream) for stream in streams]):
        raise InvalidBound("streams")
    check_many(many)
    turns = len(streams)
    readings = []
    for turn, stream in enumerate(streams):
        own = (many - turn + turns - 1) // turns
        places = places_in(table, stream, own)
        if len(places) <= own or places[own][1] < len(stream):
            raise InvalidStream(turn)
        readings.append(places)
    found = []
    for stream in streams:
        found.extend(stream[:table.bits()])
    for at in range(many):
        places = readings[at % turns]
        found.extend(streams[at % turns][places[at // turns][1]:places[at // turns + 1][1]])
    return found


def write_after(first, tables, text, last=0):
    """The stream of a text of which each symbol is written by the table of the symbol ahead of it."""
    check_after(first, tables)
    check_text(text)
    behind = dict(tables)
    readers = [first] + [behind.get(symbol, first) for symbol in text[:-1]]
    for table, symbol in zip(readers, text):
        check_has(table, symbol)
    check_state(first, last, "last")
    passed = []
    state = last
    for at in range(len(text) - 1, -1, -1):
        state, bits, number = way_back(readers[at], text[at], state)
        passed.append((number, bits))
    return laid(passed + [(state, first.bits())])


def read_after(first, tables, stream, many):
    """The tuple (text, last, used) of reading a stream by the tables of the symbols ahead."""
    check_after(first, tables)
    check_stream(stream)
    check_many(many)
    behind = dict(tables)
    table = first
    at = first.bits()
    state = number_at(stream, 0, at)
    text = []
    for _ in range(many):
        symbol, bits, base = reads_of(table)[state]
        state = base + number_at(stream, at, bits)
        at += bits
        text.append(symbol)
        table = behind.get(symbol, first)
    return text, state, at


def tables_after(text, bits):
    """The table for a text, and those for what stands behind each of its symbols."""
    numbers = numbers_of(text)
    check_bits(bits)
    first = table_by_steps(by_rests(numbers, bits))
    behind = {}
    for symbol, follower in zip(text[:-1], text[1:]):
        behind.setdefault(symbol, []).append(follower)
    return first, [(symbol, table_by_steps(counts_by_rests(numbers_in(behind[symbol]), bits)))
                   for symbol in sorted(behind)]


def woven_steps(tables, states, stream, many):
    """The tuples (symbol, begin, end) of the symbols and their bits, the last states, and the bits that are used."""
    width = tables[0].bits()
    fronts = [number_at(stream, turn * width, width) for turn in range(states)]
    at = states * width
    rows = [reads_of(table) for table in tables]
    passed = []
    for index in range(many):
        turn = index % states
        symbol, bits, base = rows[index % len(rows)][fronts[turn]]
        fronts[turn] = base + number_at(stream, at, bits)
        passed.append((symbol, at, at + bits))
        at += bits
    return passed, fronts, at


def are_states(value, many, table):
    """Whether a value is a list of so many states of a table."""
    if not isinstance(value, list) or len(value) != many:
        return False
    return all([is_within(item, 0, table.size() - 1) for item in value])


def check_tables(tables):
    """Raises InvalidBound for what is no list of 1 to 8 tables of one size."""
    if not isinstance(tables, list) or not 1 <= len(tables) <= MOST_WOVEN:
        raise InvalidBound("tables")
    if not all([isinstance(table, Table) for table in tables]):
        raise InvalidBound("tables")
    if not all([table.size() == tables[0].size() for table in tables]):
        raise InvalidBound("tables")


def check_woven(states, stream, many):
    """Raises the errors of reading a woven stream, as far as nothing is read."""
    check_within(states, 1, MOST_WOVEN, "states")
    check_stream(stream)
    check_many(many)


def check_has(table, symbol):
    """Raises InvalidSymbol for a symbol that a table has not."""
    if symbol not in ways_of(table):
        raise InvalidSymbol(symbol)


def check_after(first, tables):
    """Raises InvalidBound for what is no table, and what are no tables of symbols of the same size."""
    if not isinstance(first, Table):
        raise InvalidBound("first")
    if not isinstance(tables, list):
        raise InvalidBound("tables")
    ahead = -1
    for item in tables:
        if not is_pair(item) or item[0] <= ahead or item[1].size() != first.size():
            raise InvalidBound("tables")
        ahead = item[0]


def is_pair(value):
    """Whether a value is a tuple of a symbol and a table."""
    return isinstance(value, tuple) and len(value) == 2 and is_symbol(value[0]) and isinstance(value[1], Table)
