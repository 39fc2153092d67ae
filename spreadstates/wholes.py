"""Whole numbers."""


def is_integer(value):
    """Whether a value is an integer; True and False are none."""
    return isinstance(value, int) and not isinstance(value, bool)


def is_within(value, least, most):
    """Whether a value is an integer from `least` to `most`."""
    return is_integer(value) and least <= value <= most


def power(base, exponent):
    """The power of an integer, with an exponent of at least 0."""
    result = 1
    square = base
    rest = exponent
    while rest > 0:
        if rest & 1:
            result = result * square
        square = square * square
        rest = rest >> 1
    return result
