"""Logarithms of fractions to the base 2, times a whole number, rounded without error."""

# So many bits more than those of the factor make it rare that a second try is needed.
SPARE_BITS = 32
GUARD_BITS = 16


def whole_log(above, below):
    """The logarithm of above / below, which is at least 1, rounded down."""
    whole = above.bit_length() - below.bit_length()
    return whole if below << whole <= above else whole - 1


def is_power(above, below):
    """Whether above / below is a power of two with a whole exponent of at least 0."""
    return below << whole_log(above, below) == above


def log_down(above, below, factor):
    """The logarithm of above / below, which is at least 1, times a factor, rounded down."""
    whole = whole_log(above, below)
    if is_power(above, below):
        return factor * whole
    # The logarithm is no fraction here, so bounds that are narrow enough are rounded to one number.
    precision = factor.bit_length() + SPARE_BITS
    low, high = bounds_of_log(above, below, whole, precision)
    while factor * low >> precision != factor * high >> precision:
        precision *= 2
        low, high = bounds_of_log(above, below, whole, precision)
    return factor * low >> precision


def log_up(above, below, factor):
    """The logarithm of above / below, which is at least 1, times a factor, rounded up."""
    rounded = log_down(above, below, factor)
    return rounded if is_power(above, below) else rounded + 1


def bounds_of_log(above, below, whole, precision):
    """Two integers that the logarithm of above / below times 2 ** precision stands between."""
    # A number from 1 to 2 is squared for each bit; with the bounds rounded apart, it stays between them.
    depth = precision + GUARD_BITS
    low = (above << depth) // (below << whole)
    high = low + 1
    least = most = whole
    for _ in range(precision):
        low = low * low >> depth
        high = -(-high * high >> depth)
        least *= 2
        most *= 2
        if low >> depth >= 2:
            low >>= 1
            least += 1
        if high >> depth >= 2:
            high = (high + 1) >> 1
            most += 1
    return least, most + 1
