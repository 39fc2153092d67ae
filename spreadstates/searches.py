"""The best spreads and counts for a text."""

from itertools import combinations
from math import comb

from spreadstates.checks import check_bits, check_counts, check_spread, check_symbols, check_text
from spreadstates.checks import check_within, sum_of, symbols_of
from spreadstates.coding import check_writing
from spreadstates.counts import by_rests, numbers_of
from spreadstates.errors import InvalidBound, LimitExceeded
from spreadstates.lengths import MOST_LENGTHS
from spreadstates.makers import MAKERS, is_maker, least_cost, spread_by
from spreadstates.tables import Table, check_work, ways_in, ways_of
from spreadstates.wholes import is_integer

MOST_PLACES = 256
MOST_SEARCHED_STATES = 16
LONGEST_SEARCHED = 40
MOST_SPREADS = 3000
MOST_COUNTS_BITS = 5
MOST_COUNTS = 500
MOST_TRIED_BITS = 10
LONGEST_TRIED = 200


def cost_of(table, text):
    """The least length of a text over all last states, without the bits of the first state."""
    check_writing(table, text)
    check_work(table, len(text), MOST_LENGTHS)
    return least_cost(ways_of(table), table.size(), text)


def spread_number(counts):
    """How many spreads there are for counts."""
    check_counts(counts)
    check_places(sum_of(counts))
    return many_spreads(counts)


def spread_index(spread):
    """The index of a spread among those for its counts."""
    check_spread(spread)
    check_places(len(spread))
    left = dict(Table(spread).counts())
    many = many_spreads(sorted(left.items()))
    index = 0
    for at, symbol in enumerate(spread):
        rest = len(spread) - at
        # Of the spreads that go on from here, each symbol begins as many as its share of the rest.
        index += many * sum([count for other, count in left.items() if other < symbol]) // rest
        many = many * left[symbol] // rest
        left[symbol] -= 1
    return index


def spread_at(counts, index):
    """The spread with an index, of those for counts."""
    check_counts(counts)
    many = many_spreads(counts)
    if not is_integer(index) or not 0 <= index < many:
        raise InvalidBound("index")
    check_places(sum_of(counts))
    left = dict(counts)
    ahead = index
    spread = []
    for rest in range(sum_of(counts), 0, -1):
        # The spreads that go on from here are parted by their next symbol, as its place is here.
        place = ahead * rest // many
        symbols = symbols_of(counts)
        at = 0
        less = 0
        while less + left[symbols[at]] <= place:
            less += left[symbols[at]]
            at += 1
        symbol = symbols[at]
        ahead -= many * less // rest
        many = many * left[symbol] // rest
        left[symbol] -= 1
        spread.append(symbol)
    return spread


def best_spread(counts, text):
    """The least cost of a text with all spreads for counts, the first spread that has it, and how many have it."""
    check_counts(counts)
    check_searching(counts, text)
    spreads = spreads_of(counts)
    costs = [spread_cost(spread, text) for spread in spreads]
    least = min(costs)
    return least, spreads[costs.index(least)], costs.count(least)


def standing(spread, text):
    """For how many spreads with the same counts a text costs less, the same, and more."""
    check_spread(spread)
    counts = Table(spread).counts()
    check_searching(counts, text)
    own = spread_cost(spread, text)
    costs = [spread_cost(other, text) for other in spreads_of(counts)]
    less = len([cost for cost in costs if cost < own])
    same = costs.count(own)
    return less, same, len(costs) - less - same


def costs_by_makers(counts, text):
    """The tuples (maker, cost) of a text for all makers."""
    check_counts(counts)
    check_text(text)
    check_symbols(text, dict(counts))
    if sum_of(counts) * len(text) > MOST_LENGTHS:
        raise LimitExceeded(MOST_LENGTHS)
    return [(maker, spread_cost(spread_by(maker, counts), text)) for maker in MAKERS]


def shortest_counts(text, bits, maker):
    """The least cost of a text over all counts of its symbols with a maker, and the first counts that have it."""
    numbers = numbers_of(text)
    check_bits(bits)
    check_maker(maker)
    if len(text) > LONGEST_SEARCHED:
        raise LimitExceeded(LONGEST_SEARCHED)
    if bits > MOST_COUNTS_BITS:
        raise LimitExceeded(MOST_COUNTS_BITS)
    size = 1 << bits
    if len(numbers) > size:
        raise LimitExceeded(size)
    if comb(size - 1, len(numbers) - 1) > MOST_COUNTS:
        raise LimitExceeded(MOST_COUNTS)
    found = all_counts(symbols_of(numbers), size, len(numbers) - 1)
    costs = [spread_cost(spread_by(maker, counts), text) for counts in found]
    least = min(costs)
    return least, found[costs.index(least)]


def shortest_table(text, most, maker):
    """The least length of a stream of a text over all R up to `most` with a maker, and the least such R."""
    numbers = numbers_of(text)
    check_within(most, 1, MOST_TRIED_BITS, "most")
    check_maker(maker)
    if len(text) > LONGEST_TRIED:
        raise LimitExceeded(LONGEST_TRIED)
    if len(numbers) > 1 << most:
        raise LimitExceeded(1 << most)
    found = []
    for bits in range(1, most + 1):
        if len(numbers) <= 1 << bits:
            found.append((bits + spread_cost(spread_by(maker, by_rests(numbers, bits)), text), bits))
    return min(found)


def spread_cost(spread, text):
    """The cost of a text with the table of a spread."""
    return least_cost(ways_in(spread), len(spread), text)


def many_spreads(counts):
    """How many spreads there are for counts."""
    many = 1
    total = 0
    for _, count in counts:
        total += count
        many = many * comb(total, count)
    return many


def spreads_of(counts):
    """All spreads for counts, in ascending order."""
    if sum_of(counts) == 0:
        return [[]]
    found = []
    for at, (symbol, count) in enumerate(counts):
        if count > 0:
            rest = counts[:at] + [(symbol, count - 1)] + counts[at + 1:]
            for spread in spreads_of(rest):
                found.append([symbol] + spread)
    return found


def all_counts(symbols, size, cuts):
    """All counts for symbols with the sum `size`, in ascending order; `cuts` is one less than the symbols are."""
    found = []
    for inner in combinations(range(1, size), cuts):
        ends = list(inner) + [size]
        begins = [0] + list(inner)
        found.append([(symbol, end - begin) for symbol, begin, end in zip(symbols, begins, ends)])
    return found


def check_places(size):
    """Raises LimitExceeded for spreads with too many places to tell their indices."""
    if size > MOST_PLACES:
        raise LimitExceeded(MOST_PLACES)


def check_searching(counts, text):
    """Raises the errors of a text and of looking at all spreads for counts."""
    check_text(text)
    check_symbols(text, dict(counts))
    if sum_of(counts) > MOST_SEARCHED_STATES:
        raise LimitExceeded(MOST_SEARCHED_STATES)
    if len(text) > LONGEST_SEARCHED:
        raise LimitExceeded(LONGEST_SEARCHED)
    if many_spreads(counts) > MOST_SPREADS:
        raise LimitExceeded(MOST_SPREADS)


def check_maker(maker):
    """Raises InvalidBound for what is no maker."""
    if not is_maker(maker):
        raise InvalidBound("maker")
