"""Tables, writing and reading word by word as the document has them, apart from the program."""

import functools
import itertools
import random


def log2_down(number):
    """The logarithm of an integer to the base 2, rounded down."""
    found = 0
    while 2 ** (found + 1) <= number:
        found += 1
    return found


def width_of(spread):
    """The R of a spread."""
    return log2_down(len(spread))


def rows_of(spread):
    """The rows of all states, by point 13."""
    return list(rows_by_definition(tuple(spread)))


@functools.lru_cache(maxsize=256)
def rows_by_definition(spread):
    """The rows of all states for a tuple of symbols."""
    size = len(spread)
    counts = {symbol: spread.count(symbol) for symbol in set(spread)}
    met = {symbol: 0 for symbol in counts}
    rows = []
    for symbol in spread:
        n = counts[symbol] + met[symbol]
        met[symbol] += 1
        bits = width_of(spread) - log2_down(n)
        rows.append((symbol, bits, n * 2 ** bits - size))
    return rows


def before_of(rows, symbol, state):
    """All tuples (state, bits, number) with which a symbol is read and leads to a state."""
    found = []
    for here, (read, bits, base) in enumerate(rows):
        if read == symbol and base <= state < base + 2 ** bits:
            found.append((here, bits, state - base))
    return found


def digits(number, width):
    """The bits of a number, the greatest one first."""
    return [int(letter) for letter in format(number, "b").rjust(width, "0")] if width > 0 else []


def write_by_definition(spread, text, last):
    """The stream of a text, by point 16."""
    rows = rows_of(spread)
    state = last
    stream = []
    for symbol in reversed(text):
        (state, bits, number), = before_of(rows, symbol, state)
        stream = digits(number, bits) + stream
    return digits(state, width_of(spread)) + stream


def read_by_definition(spread, stream, many):
    """The tuple (text, last, used, steps) of point 17, or None if there are too few bits."""
    rows = rows_of(spread)
    rest = list(stream)
    if len(rest) < width_of(spread):
        return None
    state = 0
    for _ in range(width_of(spread)):
        state = 2 * state + rest.pop(0)
    steps = []
    for _ in range(many):
        symbol, bits, base = rows[state]
        if bits > len(rest):
            return None
        number = 0
        for _ in range(bits):
            number = 2 * number + rest.pop(0)
        steps.append((state, symbol, bits, number))
        state = base + number
    return [symbol for _, symbol, _, _ in steps], state, len(stream) - len(rest), steps


def places_of(spread, first, bits, most):
    """The tuples (state, used) of reading from a state as many symbols as there are bits for, at most so many."""
    rows = rows_of(spread)
    found = [(first, 0)]
    while len(found) <= most:
        state, used = found[-1]
        _, wide, base = rows[state]
        number = 0
        for bit in bits[used:used + wide]:
            number = 2 * number + bit
        if used + wide > len(bits):
            break
        found.append((base + number, used + wide))
    return found


def readings_of(spread, stream, most):
    """The tuples (state, bits left) of reading a stream with its first state, none if it has too few bits for it."""
    width = width_of(spread)
    if len(stream) < width:
        return []
    first = int("".join(str(bit) for bit in stream[:width]), 2)
    rest = stream[width:]
    return [(state, rest[used:]) for state, used in places_of(spread, first, rest, most)]


def cost_by_definition(spread, text, last):
    """The bits of a text, without those of the first state."""
    return len(write_by_definition(spread, text, last)) - width_of(spread)


def least_by_definition(spread, text):
    """The least cost of a text over all last states."""
    return min(cost_by_definition(spread, text, last) for last in range(len(spread)))


def streams_of(spread, many):
    """The tuples (stream, text, last) of all texts and last states, by going forward from all first states."""
    rows = rows_of(spread)
    found = [(digits(state, width_of(spread)), [], state) for state in range(len(spread))]
    for _ in range(many):
        longer = []
        for stream, text, state in found:
            symbol, bits, base = rows[state]
            for number in range(2 ** bits):
                longer.append((stream + digits(number, bits), text + [symbol], base + number))
        found = longer
    return sorted(found)


def lists_of_bits(most):
    """All lists of at most so many bits."""
    for many in range(most + 1):
        for bits in itertools.product((0, 1), repeat=many):
            yield list(bits)


def texts_of(spread, many):
    """All texts of so many symbols, in the order of lists."""
    return [list(text) for text in itertools.product(sorted(set(spread)), repeat=many)]


def small_spreads():
    """All spreads of 2 and 4 states for the first symbols, and some of 8 and 16."""
    found = [list(spread) for spread in itertools.product((0, 1), repeat=2)]
    for spread in itertools.product((0, 1, 2, 3), repeat=4):
        if set(spread) == set(range(len(set(spread)))):
            found.append(list(spread))
    found += [
        [0, 0, 0, 0, 0, 1, 1, 2], [0, 1, 0, 0, 2, 0, 1, 0], [7, 3, 7, 7, 7, 7, 7, 7], [5, 5, 5, 9, 9, 9, 5, 5],
        [999, 0, 999, 0, 999, 0, 998, 0], [4, 3, 2, 1, 4, 3, 2, 1], [0, 1, 2, 3, 4, 5, 6, 7], [6] * 8,
        [1, 0, 0, 0, 0, 0, 0, 0], [0, 0, 0, 0, 0, 0, 0, 1], [2, 2, 2, 0, 2, 2, 1, 2],
        [0] * 15 + [1], [1] + [0] * 15, [0] * 9 + [1] * 7, [3, 1, 1, 3, 1, 1, 1, 2, 1, 3, 1, 1, 1, 1, 3, 1],
    ]
    return found


def drawn_spread(seed, bits, many):
    """A spread of 2 ** bits states with at most so many symbols, the same for the same seed."""
    draw = random.Random(seed)
    symbols = draw.sample(range(1000), many)
    weights = [draw.random() ** 3 + 0.001 for _ in symbols]
    return draw.choices(symbols, weights, k=2 ** bits)


def great_spreads():
    """Spreads of 1 to 12 bits: of one symbol, of few and of many, of one that is rare, and of all different ones."""
    found = []
    for bits in range(1, 13):
        size = 2 ** bits
        found.append([999] * size)
        found.append(list(range(size)) if size <= 1000 else [at % 1000 for at in range(size)])
        found.append([0] * (size - 1) + [5])
        found.append([5] + [8] * (size - 1))
        found.append(drawn_spread(bits, bits, 2))
        found.append(drawn_spread(100 + bits, bits, min(5, size)))
        found.append(sorted(drawn_spread(200 + bits, bits, min(60, size))))
        found.append(drawn_spread(300 + bits, bits, min(700, size)))
    return found
