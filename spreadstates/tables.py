"""Tables of states: what is read in each state, and from where a state is reached."""

from spreadstates.checks import check_spread, is_size, is_symbol
from spreadstates.errors import InvalidBound, InvalidSpread, InvalidSymbol, LimitExceeded
from spreadstates.wholes import is_integer, is_within


class Table:
    """A table with the states 0 to L - 1 for a spread of L symbols.

    `symbols` has the symbol of each state, and `width` is R. `ways` and `reads` are what `ways_of` and `reads_of`
    return, None until they are first asked for: many tables are only written with, or only read with.
    """

    def __init__(self, spread):
        check_spread(spread)
        self.symbols = list(spread)
        self.width = len(spread).bit_length() - 1
        self.ways = None
        self.reads = None

    def __eq__(self, other):
        return isinstance(other, Table) and self.symbols == other.symbols

    def spread(self):
        """The list of the symbols of all states."""
        return list(self.symbols)

    def size(self):
        """The number L of states."""
        return len(self.symbols)

    def bits(self):
        """The number R of bits of a state."""
        return self.width

    def counts(self):
        """The tuples (symbol, count), ascending."""
        return [(symbol, count_in(way)) for symbol, way in ways_of(self).items()]

    def row(self, state):
        """The tuple (symbol, bits, base) of a state."""
        check_state(self, state, "state")
        return reads_of(self)[state]

    def rows(self):
        """The rows of all states."""
        return list(reads_of(self))

    def before(self, symbol, state):
        """The tuple (state, bits, number) with which the symbol is read and leads to a state."""
        if not is_symbol(symbol) or symbol not in ways_of(self):
            raise InvalidSymbol(symbol)
        check_state(self, state, "state")
        return way_back(self, symbol, state)


def table_of_rows(rows):
    """The table that has these rows."""
    if not isinstance(rows, list):
        raise InvalidSpread(-1)
    if not is_size(len(rows)):
        raise InvalidSpread(len(rows))
    for at, row in enumerate(rows):
        if not is_row(row):
            raise InvalidSpread(at)
    table = Table([symbol for symbol, _, _ in rows])
    reads = reads_of(table)
    if rows != reads:
        at = 0
        while rows[at] == reads[at]:
            at += 1
        raise InvalidSpread(at)
    return table


def is_row(value):
    """Whether a value is a tuple of three integers with a symbol in front."""
    if not isinstance(value, tuple) or len(value) != 3:
        return False
    symbol, bits, base = value
    return is_symbol(symbol) and is_integer(bits) and is_integer(base)


def ways_of(table):
    """For each symbol of a table, ascending, what `way_of` returns."""
    if table.ways is None:
        table.ways = ways_in(table.symbols)
    return table.ways


def reads_of(table):
    """The rows of all states of a table."""
    if table.reads is None:
        table.reads = rows_for(ways_of(table), len(table.symbols))
    return table.reads


def ways_in(spread):
    """For each symbol of a spread, ascending, what `way_of` returns."""
    places = {symbol: [] for symbol in sorted(set(spread))}
    for state, symbol in enumerate(spread):
        places[symbol].append(state)
    size = len(spread)
    return {symbol: way_of(found, size) for symbol, found in places.items()}


def way_of(places, size):
    """The tuple (edge, wide, fronts) of a symbol that is read in the states `places`, ascending.

    A state x is reached with `wide` bits if it is at least `edge`, otherwise with one bit less. L + x
    without these bits is the n of the state ahead, which is fronts[n]: as n is from the count to twice
    the count less 1, `fronts` has the places twice.
    """
    count = len(places)
    wide = size.bit_length() - count.bit_length()
    return (count << wide) - size, wide, places + places


def count_in(way):
    """The count of the symbol that has a way."""
    return len(way[2]) // 2


def states_of(way):
    """The states in which the symbol is read that has a way, ascending."""
    fronts = way[2]
    return fronts[len(fronts) // 2:]


def rows_for(ways, size):
    """The rows of all states."""
    rows = [()] * size
    for symbol, way in ways.items():
        lay_rows(rows, symbol, way, size)
    return rows


def lay_rows(rows, symbol, way, size):
    """Puts the rows of all states of a symbol where they stand in rows."""
    base, bits, fronts = way
    step = 1 << bits
    for state in fronts[:len(fronts) // 2]:
        rows[state] = (symbol, bits, base)
        base += step
        # Once the next states go round, the further states read one bit less.
        if base == size:
            base = 0
            bits -= 1
            step >>= 1


def way_back(table, symbol, state):
    """What `before` returns for a symbol and a state of a table."""
    edge, wide, fronts = ways_of(table)[symbol]
    whole = len(table.symbols) + state
    bits = wide if state >= edge else wide - 1
    return fronts[whole >> bits], bits, whole & ((1 << bits) - 1)


def many_wide(edge, wide, size):
    """How many states of a symbol read `wide` bits: the first ones of them."""
    return (size - edge) >> wide


def check_table(table):
    """Raises InvalidBound for what is no table."""
    if not isinstance(table, Table):
        raise InvalidBound("table")


def check_state(table, state, name):
    """Raises InvalidBound for what is no state of a table."""
    if not is_within(state, 0, len(table.symbols) - 1):
        raise InvalidBound(name)


def check_size(table, most):
    """Raises LimitExceeded for a table with more states than `most`."""
    if table.size() > most:
        raise LimitExceeded(most)


def check_work(table, many, most):
    """Raises LimitExceeded if a table has too many states for so many symbols."""
    if table.size() * many > most:
        raise LimitExceeded(most)
