"""Writing symbols that are drawn: which states are reached, and what a symbol costs in the mean."""

from math import gcd, lcm

from spreadstates.checks import symbols_of
from spreadstates.leads import closed_in, leads_of, parted
from spreadstates.wholes import lowest

# Besides the places to which it leads, a row tells how many bits and symbols are written.
BITS = -1
SYMBOLS = -2


def closed_states(table, symbols):
    """The closed classes of states, ascending, if some symbols are written in any order."""
    shift, leads, _ = leads_of(table, symbols)
    blocks = [[column[at] >> shift for column in leads] for at in range(table.size() >> shift)]
    # What is led to from the blocks of a closed class are its states.
    return [sorted({column[at] for column in leads for at in places}) for places in closed_in(blocks)]


def mean_from(table, weights, last):
    """The mean number of bits for one drawn symbol, as a fraction, if writing begins in the state `last`."""
    rows, first = rows_from(table, weights, last)
    # What is left at last are one place of each closed class, which leads to itself alone, and the first place.
    # The places that were found last go first, as few others lead to them.
    for place in list(rows)[::-1]:
        if place != first and out_of(rows[place], place) > 0:
            leave_out(rows, place)
    row = rows[first]
    total = out_of(row, first)
    if total == 0:
        return lowest(row[BITS], row[SYMBOLS])
    ends = [(row.get(place, 0), end[BITS], end[SYMBOLS]) for place, end in rows.items() if place != first]
    common = 1
    for _, _, symbols in ends:
        common = lcm(common, symbols)
    parts = [weight * bits * (common // symbols) for weight, bits, symbols in ends]
    return lowest(sum(parts), total * common)


def rows_from(table, weights, last):
    """The rows of all places that are reached from a state, as a dict, and the place of this state.

    A place is a class of states that do alike. A row tells by what weight it leads to each place, and
    the sum of weights times bits, and of weights, for one drawn symbol.
    """
    shift, leads, costs = leads_of(table, symbols_of(weights))
    only = [weight for _, weight in weights]
    blocks = [[at] + [column[at] >> shift for column in leads] for at in range(table.size() >> shift)]
    spent = [sum([weight * column[at] for weight, column in zip(only, costs)]) for at in range(len(blocks))]
    numbers = parted(blocks, spent)
    rows = {}
    ahead = [last >> shift]
    while len(ahead) > 0:
        at = ahead.pop()
        if numbers[at] not in rows:
            row = {BITS: spent[at], SYMBOLS: sum(only)}
            for place, part in zip(blocks[at][1:], only):
                row[numbers[place]] = row.get(numbers[place], 0) + part
            rows[numbers[at]] = row
            ahead += blocks[at][1:]
    return rows, numbers[last >> shift]


def out_of(row, place):
    """The weight by which the row of a place leads to others."""
    return sum([weight for to, weight in row.items() if to >= 0 and to != place])


def leave_out(rows, place):
    """Takes a place out of rows, which lead on from there at once to where it leads to."""
    beyond = {to: number for to, number in rows[place].items() if to != place}
    out = out_of(beyond, place)
    del rows[place]
    for other, row in list(rows.items()):
        weight = row.get(place, 0)
        if weight > 0:
            common = gcd(weight, out)
            times = out // common
            part = weight // common
            found = {to: number * times for to, number in row.items() if to != place}
            for to, number in beyond.items():
                found[to] = found.get(to, 0) + number * part
            rows[other] = shortened(found)


def shortened(row):
    """A row without what divides all of its numbers."""
    common = 0
    for number in row.values():
        common = gcd(common, number)
        if common == 1:
            return row
    return {to: number // common for to, number in row.items()}
