"""Reading: the states to which the bits of a stream lead."""

from spreadstates.checks import MOST_BITS
from spreadstates.wholes import number_of

# In streams of at least so many bits, the same words of bits come again and again.
LONG_STREAM = 500
NO_BIT = -1


def read_on(reads, first, stream, begin, many, is_full):
    """What reading goes through from a state and a bit of a stream on, the state that is reached, and the bit there.

    `many` symbols are read, or as many as there are bits for. `reads` has rows of states. What is gone
    through are the states, or with `is_full` the tuples (state, symbol, bits, number).
    """
    if len(stream) >= LONG_STREAM:
        return read_long(reads, first, stream, begin, many, is_full)
    passed = []
    state = first
    at = begin
    end = len(stream)
    for _ in range(many):
        symbol, bits, base = reads[state]
        behind = at + bits
        if behind > end:
            return passed, state, at
        number = 0
        for bit in stream[at:behind]:
            number += number + bit
        passed.append((state, symbol, bits, number) if is_full else state)
        state = base + number
        at = behind
    return passed, state, at


def read_long(reads, first, stream, begin, many, is_full):
    """What `read_on` returns, for a long stream."""
    # The numbers of words are kept. What stands behind the last bit here is in no word that is kept.
    numbers = {}
    told = tuple(stream) + (NO_BIT,) * MOST_BITS
    passed = []
    state = first
    at = begin
    for _ in range(many):
        symbol, bits, base = reads[state]
        behind = at + bits
        word = told[at:behind]
        number = numbers.get(word)
        if number is None:
            if behind > len(stream):
                return passed, state, at
            number = number_of(word)
            numbers[word] = number
        passed.append((state, symbol, bits, number) if is_full else state)
        state = base + number
        at = behind
    return passed, state, at
