"""Writing symbols that are drawn: which states are reached, and what a symbol costs in the mean."""

from math import gcd, lcm

from spreadstates.checks import sum_of, symbols_of
from spreadstates.equations import solved
from spreadstates.tables import ways_back
from spreadstates.wholes import lowest


def reaches_of(table, symbols):
    """For each state, the states that writing some symbols leads to, itself among them, as bits of an integer."""
    reaches = [1 << state for state in range(table.size())]
    for symbol in symbols:
        for state, (place, _, _) in enumerate(ways_back(table, symbol)):
            reaches[state] |= 1 << place
    for through in range(table.size()):
        for state in range(table.size()):
            if reaches[state] >> through & 1:
                reaches[state] |= reaches[through]
    return reaches


def closed_in(reaches):
    """The closed classes, as ascending lists of states, ascending."""
    found = []
    for state, reach in enumerate(reaches):
        states = states_in(reach)
        if states[0] == state and all([reaches[other] == reach for other in states]):
            found.append(states)
    return found


def states_in(reach):
    """The ascending list of the states that are bits of an integer."""
    return [state for state in range(reach.bit_length()) if reach >> state & 1]


def mean_from(table, weights, last):
    """The mean number of bits for one drawn symbol, as a fraction, if writing begins in the state `last`."""
    weights = shortened(weights)
    total = sum_of(weights)
    reaches = reaches_of(table, symbols_of(weights))
    leads, spent = draws_of(table, weights)
    means = {}
    for states in closed_in(reaches):
        if reaches[last] >> states[0] & 1:
            mean = mean_within(states, leads, spent, total)
            for state in states:
                means[state] = mean
    if last in means:
        return means[last]
    outside = [state for state in states_in(reaches[last]) if state not in means and state != last]
    return mean_outside(outside + [last], leads, means, total)


def shortened(weights):
    """The weights without what divides all of them."""
    common = 0
    for _, weight in weights:
        common = gcd(common, weight)
    return [(symbol, weight // common) for symbol, weight in weights]


def draws_of(table, weights):
    """For each state, the tuples (place, weight) of where drawn symbols lead, and the sum of weights times bits."""
    leads = [[] for _ in range(table.size())]
    spent = [0] * table.size()
    for symbol, weight in weights:
        for state, (place, bits, _) in enumerate(ways_back(table, symbol)):
            leads[state].append((place, weight))
            spent[state] += weight * bits
    return leads, spent


def mean_within(states, leads, spent, total):
    """The mean of a closed class, as a fraction."""
    # The share of the last state is taken as 1 at first. What comes into each other state by a drawn
    # symbol must be what goes out of it.
    many = len(states) - 1
    places = {state: at for at, state in enumerate(states)}
    rows = [[0] * at + [total] + [0] * (many - at) for at in range(many)]
    for at, state in enumerate(states):
        for place, weight in leads[state]:
            to = places[place]
            if to < many:
                rows[to][at] += -weight if at < many else weight
    shares, below = solved(rows)
    shares.append(below)
    return lowest(sum([share * spent[state] for share, state in zip(shares, states)]), total * sum(shares))


def mean_outside(states, leads, means, total):
    """The mean for the last one of some states outside of the closed classes, whose means are known."""
    # The mean of each state is the one of the states that it leads to, by their weights; a common
    # denominator makes whole numbers of the means that are known.
    common = 1
    for _, below in means.values():
        common = lcm(common, below)
    places = {state: at for at, state in enumerate(states)}
    rows = []
    for at, state in enumerate(states):
        row = [0] * (len(states) + 1)
        row[at] = total
        for place, weight in leads[state]:
            if place in places:
                row[places[place]] -= weight
            else:
                above, below = means[place]
                row[len(states)] += weight * above * (common // below)
        rows.append(row)
    numbers, below = solved(rows)
    return lowest(numbers[-1], below * common)
