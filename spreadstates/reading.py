"""Reading: the states to which the bits of a stream lead."""

from spreadstates.checks import MOST_BITS
from spreadstates.wholes import number_of

# In streams of at least so many bits, the same words of bits come again and again.
LONG_STREAM = 4000
NO_BIT = -1


def read_on(reads, first, stream, begin, many, is_full):
    """What is read from a state and a bit of a stream on, the state that is reached, and the bit there.

    `many` symbols are read, or as many as there are bits for. `reads` has rows of states. What is read
    are the symbols of the rows, or with `is_full` the tuples (state, symbol, bits, number).
    """
    if len(stream) >= LONG_STREAM:
        return read_long(reads, first, stream, begin, many, is_full)
    passed = []
    state = first
    at = begin
    end = len(stream)
    for _ in range(many):
        symbol, bits, base = reads[state]
        behind = at + bits
        if behind > end:
            return passed, state, at
        # Frequent symbols have no bit or one, for which nothing needs to be put together.
        number = 0
        if bits > 1:
            for bit in stream[at:behind]:
                number += number + bit
        elif bits == 1:
            number = stream[at]
        passed.append((state, symbol, bits, number) if is_full else symbol)
        state = base + number
        at = behind
    return passed, state, at


def read_long(reads, first, stream, begin, many, is_full):
    """What `read_on` returns, for a long stream."""
    # The numbers of words of bits are kept. What stands behind the last bit here is in no word that is kept.
    numbers = {}
    told = tuple(stream) + (NO_BIT,) * MOST_BITS
    passed = []
    state = first
    at = begin
    for _ in range(many):
        symbol, bits, base = reads[state]
        behind = at + bits
        if bits > 1:
            word = told[at:behind]
            number = numbers.get(word)
            if number is None:
                if behind > len(stream):
                    return passed, state, at
                number = number_of(word)
                numbers[word] = number
        else:
            number = told[at] if bits == 1 else 0
            if number < 0:
                return passed, state, at
        passed.append((state, symbol, bits, number) if is_full else symbol)
        state = base + number
        at = behind
    return passed, state, at
