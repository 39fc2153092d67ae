"""Tables of states: what is read in each state, and from where a state is reached."""

from spreadstates.checks import check_spread, check_within, is_size, is_symbol
from spreadstates.errors import InvalidBound, InvalidSpread, InvalidSymbol, LimitExceeded
from spreadstates.wholes import is_integer


class Table:
    """A table with the states 0 to L - 1 for a spread of L symbols.

    Nothing changes behind __init__, so the other files of the package read the attributes as they
    are: `symbols` and `reads` have the symbol and the row of each state, `width` is R, and `ways`
    has what `way_of` returns for each symbol, ascending.
    """

    def __init__(self, spread):
        check_spread(spread)
        self.symbols = list(spread)
        self.width = len(spread).bit_length() - 1
        self.ways = ways_of(spread)
        self.reads = rows_of(self.ways, len(spread))

    def __eq__(self, other):
        return isinstance(other, Table) and self.symbols == other.symbols

    def spread(self):
        """The list of the symbols of all states."""
        return list(self.symbols)

    def size(self):
        """The number L of states."""
        return len(self.symbols)

    def bits(self):
        """The number R of bits of a state."""
        return self.width

    def counts(self):
        """The tuples (symbol, count), ascending."""
        return [(symbol, len(places)) for symbol, (_, _, places) in self.ways.items()]

    def row(self, state):
        """The tuple (symbol, bits, base) of a state."""
        check_state(self, state, "state")
        return self.reads[state]

    def rows(self):
        """The rows of all states."""
        return list(self.reads)

    def before(self, symbol, state):
        """The tuple (state, bits, number) with which the symbol is read and leads to a state."""
        if not is_symbol(symbol) or symbol not in self.ways:
            raise InvalidSymbol(symbol)
        check_state(self, state, "state")
        return way_back(self, symbol, state)


def table_of_rows(rows):
    """The table that has these rows."""
    if not isinstance(rows, list):
        raise InvalidSpread(-1)
    if not is_size(len(rows)):
        raise InvalidSpread(len(rows))
    for at, row in enumerate(rows):
        if not is_row(row):
            raise InvalidSpread(at)
    table = Table([symbol for symbol, _, _ in rows])
    if rows != table.reads:
        at = 0
        while rows[at] == table.reads[at]:
            at += 1
        raise InvalidSpread(at)
    return table


def is_row(value):
    """Whether a value is a tuple of three integers with a symbol in front."""
    if not isinstance(value, tuple) or len(value) != 3:
        return False
    symbol, bits, base = value
    return is_symbol(symbol) and is_integer(bits) and is_integer(base)


def ways_of(spread):
    """For each symbol of a spread, ascending, what `way_of` returns."""
    places = {}
    for state, symbol in enumerate(spread):
        places.setdefault(symbol, []).append(state)
    return {symbol: way_of(places[symbol], len(spread)) for symbol in sorted(places)}


def way_of(places, size):
    """The tuple (edge, wide, places) of a symbol that is read in the states `places`.

    A state x is reached with `wide` bits if L + x is at least `edge`, otherwise with one bit less;
    and L + x without these bits is the n of the state ahead of it.
    """
    count = len(places)
    wide = size.bit_length() - count.bit_length()
    return count << wide, wide, places


def rows_of(ways, size):
    """The rows of all states."""
    rows = [()] * size
    for symbol, (edge, wide, places) in ways.items():
        for base, state in zip(range(edge - size, size, 1 << wide), places):
            rows[state] = (symbol, wide, base)
        # Where a symbol has a power of two as its count, none of its states reads one bit less.
        if edge > size:
            rest = places[many_wide(edge, wide, size):]
            for base, state in zip(range(0, edge - size, 1 << (wide - 1)), rest):
                rows[state] = (symbol, wide - 1, base)
    return rows


def way_back(table, symbol, state):
    """What `before` returns for a symbol and a state of a table."""
    edge, wide, places = table.ways[symbol]
    whole = len(table.symbols) + state
    bits = wide if whole >= edge else wide - 1
    return places[(whole >> bits) - len(places)], bits, whole & ((1 << bits) - 1)


def ways_back(table, symbol):
    """What `before` returns for a symbol and all states of a table, in their order."""
    found = [()] * table.size()
    _, _, places = table.ways[symbol]
    for place in places:
        _, bits, base = table.reads[place]
        for number in range(1 << bits):
            found[base + number] = (place, bits, number)
    return found


def many_wide(edge, wide, size):
    """How many states of a symbol read `wide` bits: the first ones of them."""
    return (2 * size - edge) >> wide


def check_table(table):
    """Raises InvalidBound for what is no table."""
    if not isinstance(table, Table):
        raise InvalidBound("table")


def check_state(table, state, name):
    """Raises InvalidBound for what is no state of a table."""
    check_within(state, 0, len(table.symbols) - 1, name)


def check_size(table, most):
    """Raises LimitExceeded for a table with more states than `most`."""
    if table.size() > most:
        raise LimitExceeded(most)


def check_work(table, many, most):
    """Raises LimitExceeded if a table has too many states for so many symbols."""
    if table.size() * many > most:
        raise LimitExceeded(most)
