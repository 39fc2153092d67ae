"""Spreads and tables that are made in one go, and what texts cost with spreads at least."""

from spreadstates.counts import by_rests
from spreadstates.spreads import spread_by_bits, spread_by_runs, spread_by_shares, spread_by_steps
from spreadstates.tables import Table, ways_of

MAKERS = ("bits", "runs", "shares", "steps")


def is_maker(value):
    """Whether a value is a maker."""
    return isinstance(value, str) and value in MAKERS


def spread_by(maker, counts):
    """The spread that a maker makes for counts."""
    if maker == "bits":
        return spread_by_bits(counts)
    if maker == "runs":
        return spread_by_runs(counts)
    if maker == "shares":
        return spread_by_shares(counts)
    return spread_by_steps(counts)


def table_by_steps(numbers, bits):
    """The table of the spread by steps for the counts by rests for numbers."""
    return Table(spread_by("steps", by_rests(numbers, bits)))


def least_cost(spread, text):
    """The least length of a text with the table of a spread, without the bits of the first state."""
    ways = ways_of(spread)
    if len(ways) == 1:
        return 0
    # All last states are written from at once. Those that come to one state go on together, at the
    # least cost so far; so there are few of them soon.
    costs = {state: 0 for state in range(len(spread))}
    for symbol in reversed(text):
        costs = costs_ahead(costs, ways[symbol], len(spread))
    return min(list(costs.values()))


def costs_ahead(costs, way, size):
    """The least costs of the states in which a symbol is read, if `costs` are those of the states behind it."""
    edge, wide, places = way
    found = {}
    for state, cost in costs.items():
        whole = size + state
        bits = wide if whole >= edge else wide - 1
        place = places[(whole >> bits) - len(places)]
        total = cost + bits
        if found.get(place, total) >= total:
            found[place] = total
    return found
