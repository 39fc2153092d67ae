"""Whole numbers, their bits, and fractions of them."""

from math import gcd

# The places of the bits of a number, the greatest first, for each width up to one more than that of a state.
PLACES = (
    (),
    (0,),
    (1, 0),
    (2, 1, 0),
    (3, 2, 1, 0),
    (4, 3, 2, 1, 0),
    (5, 4, 3, 2, 1, 0),
    (6, 5, 4, 3, 2, 1, 0),
    (7, 6, 5, 4, 3, 2, 1, 0),
    (8, 7, 6, 5, 4, 3, 2, 1, 0),
    (9, 8, 7, 6, 5, 4, 3, 2, 1, 0),
    (10, 9, 8, 7, 6, 5, 4, 3, 2, 1, 0),
    (11, 10, 9, 8, 7, 6, 5, 4, 3, 2, 1, 0),
    (12, 11, 10, 9, 8, 7, 6, 5, 4, 3, 2, 1, 0),
)


def is_integer(value):
    """Whether a value is an integer; True and False are none."""
    return isinstance(value, int) and value is not True and value is not False


def is_within(value, least, most):
    """Whether a value is an integer from `least` to `most`."""
    return isinstance(value, int) and value is not True and value is not False and least <= value <= most


def power(base, exponent):
    """The power of an integer, with an exponent of at least 0."""
    # An exponent of two stars must be small, so a greater one is taken apart into digits to the base 64.
    result = base ** (int(exponent) % 64)
    if exponent < 64:
        return result
    return result * power(base ** 64, exponent // 64)


def lowest(above, below):
    """The fraction of two integers in lowest terms, the lower one being at least 1."""
    common = gcd(above, below)
    return above // common, below // common


def number_of(bits):
    """The number that a list of bits makes."""
    number = 0
    for bit in bits:
        number += number + bit
    return number


def bits_of(number, width):
    """The list of the lowest bits of a number, of which there are at most 13."""
    return [number >> at & 1 for at in PLACES[width]]
