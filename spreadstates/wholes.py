"""Whole numbers, their bits, and fractions of them."""

from math import gcd


def is_integer(value):
    """Whether a value is an integer; True and False are none."""
    return isinstance(value, int) and not isinstance(value, bool)


def is_within(value, least, most):
    """Whether a value is an integer from `least` to `most`."""
    return is_integer(value) and least <= value <= most


def power(base, exponent):
    """The power of an integer, with an exponent of at least 0."""
    # An exponent of two stars must be small, so a greater one is taken apart into digits to the base 64.
    result = base ** (int(exponent) % 64)
    if exponent < 64:
        return result
    return result * power(base ** 64, exponent // 64)


def lowest(above, below):
    """The fraction of two integers in lowest terms, the lower one being at least 1."""
    common = gcd(above, below)
    return above // common, below // common


def number_of(bits):
    """The number that a list of bits makes."""
    number = 0
    for bit in bits:
        number = 2 * number + bit
    return number


def bits_of(number, width):
    """The list of the bits of a number."""
    return [number >> at & 1 for at in range(width - 1, -1, -1)]
