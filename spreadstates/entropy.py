"""How far tables are from the ideal length."""

from spreadstates.checks import check_text, check_within, is_ascending, sum_if_numbers, sum_of, symbols_of
from spreadstates.coding import check_writing, spent_on
from spreadstates.counts import numbers_in, numbers_of
from spreadstates.drawing import closed_states, mean_from
from spreadstates.errors import InvalidBound, LimitExceeded
from spreadstates.logs import log_down, log_up, whole_log
from spreadstates.makers import counts_by_rests, least_cost, ways_by_steps
from spreadstates.spreads import places_by_steps
from spreadstates.tables import check_size, check_state, check_table, count_in, ways_of
from spreadstates.wholes import power

LONGEST_TOLD = 2000
MOST_IDEAL_BITS = 100000
MOST_PARTS = 64
MOST_GAP_PARTS = 16
MOST_MEAN_STATES = 32
MOST_GAP_WEIGHTS = 200
MOST_EXTRA = 1000
MOST_TABLE_BITS = 10


def ideal_order(text, bits):
    """-1, 0 or 1: whether `bits` is less than the ideal length of a text, equal to it, or greater."""
    check_text(text)
    check_within(bits, 0, MOST_IDEAL_BITS, "bits")
    check_told(text)
    above, below = ideal_of(text)
    there = below << bits
    if there < above:
        return -1
    return 1 if there > above else 0


def ideal_part(text, parts):
    """The ideal length of a text in `parts`-th parts of a bit, rounded down."""
    check_text(text)
    check_within(parts, 1, MOST_PARTS, "parts")
    check_told(text)
    above, below = ideal_of(text)
    return log_down(above, below, parts)


def cost_part(table, text, parts):
    """The length that the counts of a table tell, in `parts`-th parts of a bit, rounded down."""
    check_writing(table, text)
    check_within(parts, 1, MOST_PARTS, "parts")
    check_told(text)
    below = 1
    for symbol, number in numbers_in(text):
        below = below * power(count_in(ways_of(table)[symbol]), number)
    return log_down(1 << (table.bits() * len(text)), below, parts)


def gap_part(table, text, last, parts):
    """The length of a text less its ideal length, in `parts`-th parts of a bit, rounded down."""
    check_writing(table, text)
    check_state(table, last, "last")
    check_within(parts, 1, MOST_PARTS, "parts")
    check_told(text)
    above, below = ideal_of(text)
    bits, _ = spent_on(ways_of(table), table.size(), text, last)
    return parts * bits - log_up(above, below, parts)


def mean_bits(table, weights, last):
    """The mean number of bits for one symbol, if symbols are drawn by weights, as a fraction."""
    check_table(table)
    check_weights(table, weights)
    check_state(table, last, "last")
    check_size(table, MOST_MEAN_STATES)
    return mean_from(table, weights, last)


def closed_classes(table, symbols):
    """The closed classes, as ascending lists of states, if some symbols are written in any order."""
    check_table(table)
    if not is_ascending(symbols, ways_of(table)) or len(symbols) == 0:
        raise InvalidBound("symbols")
    check_size(table, MOST_MEAN_STATES)
    return closed_states(table, symbols)


def mean_gap(table, weights, last, parts):
    """The mean number of bits less the entropy of the weights, in `parts`-th parts of a bit, rounded down."""
    check_table(table)
    check_weights(table, weights)
    check_state(table, last, "last")
    check_within(parts, 1, MOST_GAP_PARTS, "parts")
    check_size(table, MOST_MEAN_STATES)
    total = sum_of(weights)
    if total > MOST_GAP_WEIGHTS:
        raise LimitExceeded(MOST_GAP_WEIGHTS)
    mean, under = mean_from(table, weights, last)
    above, below = ideal_for(weights)
    # The entropy is log2(above / below) / total, so all is told in parts of under * total here.
    return (parts * mean * total - log_up(above, below, parts * under)) // (under * total)


def is_even(table):
    """Whether each symbol costs the same number of bits in all states."""
    check_table(table)
    # Where a count is a power of two, no state is reached with one bit less than the others.
    return all([edge == 0 for edge, _, _ in ways_of(table).values()])


def least_table(text, extra, most):
    """The least R with which a text costs at most `extra` bits more than its ideal length, or None."""
    numbers = numbers_of(text)
    check_within(extra, 0, MOST_EXTRA, "extra")
    check_within(most, 1, MOST_TABLE_BITS, "most")
    check_told(text)
    above, below = ideal_for(numbers)
    # A cost is whole, so it may as well be compared with the ideal length rounded down.
    bound = whole_log(above, below) + extra
    for bits in range(1, most + 1):
        size = 1 << bits
        if len(numbers) <= size:
            ways = ways_by_steps(counts_by_rests(numbers, bits), places_by_steps(size, 0))
            if least_cost(ways, size, text) <= bound:
                return bits
    return None


def ideal_of(text):
    """The fraction whose logarithm is the ideal length of a text, not in lowest terms."""
    return ideal_for(numbers_in(text))


def ideal_for(numbers):
    """The fraction whose logarithm is the ideal length of a text with these numbers, not in lowest terms."""
    total = sum_of(numbers)
    below = 1
    for _, number in numbers:
        below = below * power(number, number)
    return power(total, total), below


def check_weights(table, weights):
    """Raises InvalidBound for what are no weights of symbols of a table."""
    if sum_if_numbers(weights) == 0 or not is_ascending(symbols_of(weights), ways_of(table)):
        raise InvalidBound("weights")


def check_told(text):
    """Raises LimitExceeded for a text that is too long for what is told of its ideal length."""
    if len(text) > LONGEST_TOLD:
        raise LimitExceeded(LONGEST_TOLD)
