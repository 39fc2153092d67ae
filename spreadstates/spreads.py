"""Spreads: in which states the symbols stand."""

from spreadstates.checks import check_bits, check_counts, check_within, is_ascending, sum_of
from spreadstates.errors import InvalidBound

# So often a list may be put behind itself to find each item by a slice.
MOST_ROUNDS = 16


def spread_by_steps(counts, rare=()):
    """The spread that goes through the places by a step; rare symbols get the last places."""
    check_counts(counts)
    if not are_rare(rare, counts):
        raise InvalidBound("rare")
    runs = runs_of(counts)
    if len(rare) == 0:
        return laid_by_steps(runs)
    size = len(runs)
    spread = [0] * size
    for at, symbol in enumerate(rare):
        spread[size - 1 - at] = symbol
    apart = set(rare)
    laid = [symbol for symbol in runs if symbol not in apart]
    for place, symbol in zip(places_by_steps(size, len(rare)), laid):
        spread[place] = symbol
    return spread


def spread_by_runs(counts):
    """The spread with the symbols in ascending order."""
    check_counts(counts)
    return runs_of(counts)


def spread_by_bits(counts):
    """The spread by runs, with the bits of each place turned about."""
    check_counts(counts)
    runs = runs_of(counts)
    # Turning about twice changes nothing, so each place finds its item as the item its place.
    return [runs[item] for item in turned_places(len(runs))]


def spread_by_shares(counts):
    """The spread by the shares (2 * j + 1) / (2 * count) of the symbols."""
    check_counts(counts)
    size = sum_of(counts)
    # Unlike shares of two counts c and d differ by at least 1 / (2 * c * 2 * d), so times
    # 4 * size * size they still differ when they are rounded down, and wholes can be sorted.
    scale = 2 * size * size
    shares = [((2 * j + 1) * scale // count, symbol) for symbol, count in counts for j in range(count)]
    return [symbol for _, symbol in sorted(shares)]


def order_of_steps(bits, many):
    """The places in the order of the spread by steps, without those of `many` rare symbols."""
    check_bits(bits)
    size = 1 << bits
    check_within(many, 0, size, "many")
    return places_by_steps(size, many)


def are_rare(value, counts):
    """Whether a value is an ascending list of symbols with the count 1, or ()."""
    if isinstance(value, tuple):
        return len(value) == 0
    return is_ascending(value, {symbol: True for symbol, count in counts if count == 1})


def runs_of(counts):
    """The symbols of counts in ascending order, each as often as its count."""
    runs = []
    for symbol, count in counts:
        runs += [symbol] * count
    return runs


def step_of(size):
    """The step for so many places."""
    step = size // 2 + size // 8 + 3
    return step + 1 if step & 1 == 0 else step


def places_by_steps(size, many):
    """The places ahead of the last `many` ones, in the order in which the step reaches them."""
    step = step_of(size)
    last = size - 1
    places = [whole & last for whole in range(0, step * size, step)]
    return [place for place in places if place < size - many] if many > 0 else places


def laid_by_steps(runs):
    """The spread by steps of what stands in a list, one behind the other."""
    size = len(runs)
    step = step_of(size)
    # Each turn makes twice as many of the last bits of the product of both to those of 1: 3, 6, 12.
    inverse = step
    for _ in range(2):
        inverse = inverse * (2 - step * inverse) % size
    # A place has the item that many times as far in the list, which goes round.
    if inverse <= MOST_ROUNDS:
        return (runs * inverse)[::inverse]
    return [runs[place * inverse % size] for place in range(size)]


def turned_places(size):
    """The places in order, each with its bits turned about."""
    turned = [0]
    # One bit more is the last one where the turned place is even or odd, and the first one in the order.
    while len(turned) < size:
        turned = [2 * place for place in turned] + [2 * place + 1 for place in turned]
    return turned
