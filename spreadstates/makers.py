"""Spreads, tables and ways that are made in one go, and what texts cost with them at least."""

from spreadstates.counts import named, shares_of
from spreadstates.spreads import laid_by_steps, runs_of
from spreadstates.spreads import spread_by_bits, spread_by_runs, spread_by_shares, spread_by_steps
from spreadstates.tables import Table, way_of

MAKERS = ("bits", "runs", "shares", "steps")


def is_maker(value):
    """Whether a value is a maker."""
    return isinstance(value, str) and value in MAKERS


def spread_by(maker, counts):
    """The spread that a maker makes for counts."""
    if maker == "bits":
        return spread_by_bits(counts)
    if maker == "runs":
        return spread_by_runs(counts)
    if maker == "shares":
        return spread_by_shares(counts)
    return spread_by_steps(counts)


def counts_by_rests(numbers, bits):
    """What `by_rests` returns for numbers of no more symbols than states."""
    return named(numbers, shares_of([number for _, number in numbers], bits))


def table_by_steps(counts):
    """The table of the spread by steps for counts."""
    return Table(laid_by_steps(runs_of(counts)))


def ways_by_steps(counts, order):
    """The ways of all symbols by the spread by steps for counts; `order` has the places as the steps reach them."""
    size = len(order)
    ways = {}
    end = 0
    for symbol, count in counts:
        begin = end
        end += count
        ways[symbol] = way_of(sorted(order[begin:end]), size)
    return ways


def least_cost(ways, size, text):
    """The least length of a text by the ways of its symbols, without the bits of the first state."""
    if len(ways) == 1:
        return 0
    # All last states are written from at once. Those that come to one state go on together, at the
    # least cost so far; so there are few of them soon.
    costs = {state: 0 for state in range(size)}
    for symbol in reversed(text):
        costs = costs_ahead(costs, ways[symbol], size)
    return min(list(costs.values()))


def costs_ahead(costs, way, size):
    """The least costs of the states in which a symbol is read, if `costs` are those of the states behind it."""
    edge, wide, fronts = way
    found = {}
    for state, cost in costs.items():
        bits = wide if state >= edge else wide - 1
        place = fronts[(size + state) >> bits]
        total = cost + bits
        if found.get(place, total) >= total:
            found[place] = total
    return found
