"""Turned bits: how reading goes on behind them, for all streams at once.

The CODE of a state for a number of symbols tells all ways to read so many from it on. It is a dict
with a key for each way, ascending: the bits of the way, with zeros up to the greatest length, as one
number. Its value is length << R, plus the last state.
"""

from spreadstates.tables import reads_of

# What stands for a way where there is none; it is less than all values.
NO_WAY = -1


def codes_of(table, many):
    """The codes for 0 to `many` symbols, each time those of all states."""
    reads = reads_of(table)
    width = table.bits()
    most = max([bits for _, bits, _ in reads])
    codes = [[{0: state} for state in range(table.size())]]
    for left in range(1, many + 1):
        longer = []
        for _, bits, base in reads:
            code = {}
            for number in range(1 << bits):
                ahead = number << (left * most - bits)
                for rest, told in codes[-1][base + number].items():
                    code[ahead | rest << (most - bits)] = told + (bits << width)
            longer.append(code)
        codes.append(longer)
    return codes


def turned_pairs(state, bits):
    """The pairs of a state that is read in some bits, and of another one that is read if one of them is turned."""
    # A base is a multiple of 2 ** bits, so a turned bit of a number is one of the next state.
    return [(state, state ^ (1 << at)) for at in range(bits)]


def pairs_behind(table, paths):
    """How many turned bits of a symbol lead to each pair, if so many paths lead to the states; and the paths behind."""
    pairs = {}
    longer = [0] * table.size()
    for ways, (_, bits, base) in zip(paths, reads_of(table)):
        for state in range(base, base + (1 << bits)):
            longer[state] += ways
            for pair in turned_pairs(state, bits):
                pairs[pair] = pairs.get(pair, 0) + ways
    return pairs, longer


def verdicts_on(code, other, width):
    """How many ways of a code are told as short, left and another end by the reader of another one, or not at all."""
    short = left = end = good = 0
    for ahead, told in code.items():
        # The ways of a code part all lists of bits among them. So where the other one has no way with these
        # bits and zeros, a shorter way leads beyond them.
        heard = other.get(ahead, NO_WAY)
        if heard == told:
            good += 1
        elif heard >> width == told >> width:
            end += 1
        elif heard < told:
            left += 1
        else:
            short += 1
    return short, left, end, good


def first_same(code, other, shift):
    """The first way of a code that another one has, too, but for the lowest bits of its value; -1 if there is none."""
    for ahead, told in code.items():
        if other.get(ahead, NO_WAY) >> shift == told >> shift:
            return ahead
    return NO_WAY


def first_unseen_way(table, codes, shift):
    """The first state and way with a bit that can be turned so that all is read as before, but for the end; or None.

    `codes` are those for all numbers of symbols up to that of the way. The end does not count if the
    shift is R, and counts if it is 0.
    """
    reads = reads_of(table)
    most = max([bits for _, bits, _ in reads])
    inner = [NO_WAY] * table.size()
    for left in range(1, len(codes)):
        longer = []
        for _, bits, base in reads:
            found = NO_WAY
            number = -1
            while found < 0 and number + 1 < 1 << bits:
                number += 1
                found = first_turned(codes[left - 1], inner, base + number, bits, shift)
            ahead = number << (left * most - bits)
            longer.append(NO_WAY if found < 0 else ahead | found << (most - bits))
        inner = longer
    for state in range(table.size()):
        found = first_turned(codes[-1], inner, state, table.bits(), shift)
        if found >= 0:
            return state, found
    return None


def first_turned(codes, inner, state, bits, shift):
    """The first way of a state in which a bit can be turned, of its own or of the lowest ones of the state; or -1.

    `inner` has the first ways for bits of their own.
    """
    found = [first_same(codes[state], codes[other], shift) for _, other in turned_pairs(state, bits)]
    return min([way for way in found + [inner[state]] if way >= 0], default=NO_WAY)
