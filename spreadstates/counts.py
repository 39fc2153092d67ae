"""Numbers of texts, and counts of states for them."""

from heapq import heapify, heapreplace

from spreadstates.checks import MOST_SYMBOLS, check_bits, check_numbers, check_text
from spreadstates.checks import is_counts, sum_of, symbols_of
from spreadstates.errors import InvalidBound, InvalidText, LimitExceeded
from spreadstates.wholes import power

MOST_PRODUCT_BITS = 8
MOST_PRODUCT_SUM = 2000


def numbers_of(text):
    """The tuples (symbol, number) of a text, ascending by the symbol."""
    check_text(text)
    if len(text) == 0:
        raise InvalidText(0)
    return numbers_in(text)


def by_rests(numbers, bits):
    """Counts in proportion to numbers; what is missing goes by the rests of the division."""
    check_counting(numbers, bits)
    counts = shares_of([number for _, number in numbers], bits)
    return [(symbol, count) for (symbol, _), count in zip(numbers, counts)]


def by_product(numbers, bits):
    """The counts with the greatest product, made by the greatest gain each time."""
    check_counting(numbers, bits)
    if bits > MOST_PRODUCT_BITS:
        raise LimitExceeded(MOST_PRODUCT_BITS)
    check_product_sum(numbers)
    size = 1 << bits
    counts = surely_reached(numbers, size)
    gains = [gain(count, number) for count, (_, number) in zip(counts, numbers)]
    for _ in range(size - sum(counts)):
        at = place_of_greatest(gains)
        counts[at] += 1
        gains[at] = gain(counts[at], numbers[at][1])
    return named(numbers, counts)


def product_order(numbers, counts, others):
    """-1, 0 or 1: whether the product of `counts` is less than that of `others`, equal or greater."""
    check_numbers(numbers)
    symbols = symbols_of(numbers)
    if not is_counts(counts) or symbols_of(counts) != symbols:
        raise InvalidBound("counts")
    if not is_counts(others) or symbols_of(others) != symbols:
        raise InvalidBound("others")
    check_product_sum(numbers)
    one = 1
    other = 1
    for (_, number), (_, here), (_, there) in zip(numbers, counts, others):
        # Equal counts are factors of both products, which they change alike.
        if here != there:
            one = one * power(here, number)
            other = other * power(there, number)
    if one < other:
        return -1
    return 1 if one > other else 0


def check_counting(numbers, bits):
    """Raises the errors of making counts for numbers."""
    check_numbers(numbers)
    check_bits(bits)
    if len(numbers) > 1 << bits:
        raise LimitExceeded(1 << bits)


def check_product_sum(numbers):
    """Raises LimitExceeded for numbers whose products become too long."""
    if sum_of(numbers) > MOST_PRODUCT_SUM:
        raise LimitExceeded(MOST_PRODUCT_SUM)


def named(numbers, counts):
    """The tuples (symbol, count) for a list of mere counts."""
    return list(zip(symbols_of(numbers), counts))


def numbers_in(text):
    """The numbers of what is surely a text; none for the empty one."""
    numbers = {}
    for symbol in text:
        numbers[symbol] = numbers.get(symbol, 0) + 1
    return sorted(numbers.items())


def shares_of(numbers, bits):
    """The counts by rests for mere numbers, of which there are no more than states."""
    total = sum(numbers)
    counts = []
    # One integer for each share of at least 1 tells its rest, the greatest ones being the least, and its index.
    rests = []
    for at, number in enumerate(numbers):
        whole = number << bits
        count = whole // total
        if count == 0:
            counts.append(1)
        else:
            counts.append(count)
            rests.append((count * total - whole) * MOST_SYMBOLS + at)
    missing = (1 << bits) - sum(counts)
    if missing < 0:
        return lessened(counts, -missing)
    if missing > 0:
        for told in sorted(rests)[:missing]:
            counts[told % MOST_SYMBOLS] += 1
    return counts


def lessened(counts, many):
    """The counts behind taking one from the first of the greatest, `many` times."""
    fewer = list(counts)
    # A thousand counts may lack as many states, so the greatest is not sought anew each time.
    queue = [(-count, at) for at, count in enumerate(counts)]
    heapify(queue)
    for _ in range(many):
        at = queue[0][1]
        fewer[at] -= 1
        heapreplace(queue, (-fewer[at], at))
    return fewer


def surely_reached(numbers, size):
    """Counts that all symbols get at least, if one more goes to the greatest gain each time."""
    # The logarithm of (c + 1) / c is between 1 / (c + 1) and 1 / c. Let g be the least logarithm of a
    # gain that is taken, and f the count of a symbol at last. Then number / (f - 1) is greater than g
    # if f is not 1, so the sum of all f - 1, size less the symbols, is less than total / g; and
    # number / (f + 1) is less than g. So f + 1 is greater than number * (size less symbols) / total.
    spare = size - len(numbers)
    total = sum_of(numbers)
    return [max(1, number * spare // total) for _, number in numbers]


def gain(count, number):
    """The factor of the product by one more than a count, as (numerator, denominator)."""
    return power(count + 1, number), power(count, number)


def place_of_greatest(gains):
    """The index of the first of the greatest gains."""
    best = 0
    for at, (above, below) in enumerate(gains):
        if above * gains[best][1] > gains[best][0] * below:
            best = at
    return best
