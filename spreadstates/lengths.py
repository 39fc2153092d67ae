"""How long streams are: of texts, of all texts, and in the long run."""

from spreadstates.checks import check_many, check_within
from spreadstates.coding import check_writing, spent_on
from spreadstates.errors import InvalidBound, LimitExceeded
from spreadstates.tables import check_size, check_state, check_table, check_work
from spreadstates.tables import many_wide, reads_of, states_of, ways_of
from spreadstates.wholes import is_integer, lowest, power

MOST_LENGTHS = 200000
MOST_COUNTED = 2000
FARTHEST = 10 ** 30
MOST_STATES = 64
MOST_FAR_STATES = 16
MOST_NEAR = 200
# The least sums of nearly all tables repeat within so many hops for each state, and mostly within far fewer.
TURNS_TO_REPEAT = 2


def length(table, text, last=0):
    """How many bits `write` of the same has."""
    check_writing(table, text)
    check_state(table, last, "last")
    bits, _ = spent_on(ways_of(table), table.size(), text, last)
    return table.bits() + bits


def lengths(table, text):
    """The lengths of the streams of a text, for all last states."""
    check_writing(table, text)
    check_work(table, len(text), MOST_LENGTHS)
    return all_lengths(table, text)


def best_last(table, text):
    """The tuple (length, last) of the least length of all, and the least last state that has it."""
    found = lengths(table, text)
    least = min(found)
    return least, found.index(least)


def extremes(table, many):
    """The least and the greatest length of all streams of `many` symbols."""
    check_far(table, many)
    if table.size() > MOST_FAR_STATES and many > MOST_NEAR:
        raise LimitExceeded(MOST_FAR_STATES)
    least = least_sum(hops_of(table, 1), many)
    greatest = -least_sum(hops_of(table, -1), many)
    return table.bits() + least, table.bits() + greatest


def shortest_text(table, many):
    """The first text, in the order of lists, that has a stream of the least length."""
    check_near(table, many)
    return least_text(table, hops_of(table, 1), many)


def longest_text(table, many):
    """The first text, in the order of lists, that has a stream of the greatest length."""
    check_near(table, many)
    return least_text(table, hops_of(table, -1), many)


def length_counts(table, many):
    """The tuples (length, number), ascending, of all streams of `many` symbols."""
    check_table(table)
    check_many(many)
    check_work(table, many, MOST_COUNTED)
    return counted_lengths(table, many)


def text_at(table, many, number, last=0):
    """The text with a number, of all texts of `many` symbols by their lengths with a last state."""
    check_table(table)
    check_many(many)
    check_state(table, last, "last")
    check_work(table, many, MOST_COUNTED)
    if not is_integer(number) or not 0 <= number < power(len(ways_of(table)), many):
        raise InvalidBound("number")
    tally = Tally(table, many, True)
    levels = tally.levels(many, last)
    cost, ahead = falls_in(tally.costs(sum(levels[many]), many), number)
    text = []
    spent = [0] * table.size()
    for left in range(many, 0, -1):
        rows = [(other, texts_from(tally, other, left, levels[left], spent, cost)) for other in ways_of(table)]
        symbol, ahead = falls_in(rows, ahead)
        text.append(symbol)
        spent = costs_behind(table, symbol, spent)
    return text


def place_of(table, text, last=0):
    """The number of a text, of all texts of as many symbols by their lengths with a last state."""
    check_writing(table, text)
    check_state(table, last, "last")
    check_work(table, len(text), MOST_COUNTED)
    many = len(text)
    spent = [[0] * table.size()]
    for symbol in text:
        spent.append(costs_behind(table, symbol, spent[-1]))
    cost = spent[many][last]
    tally = Tally(table, many, True)
    level = tally.first_level(last)
    place = 0
    for left in range(1, many + 1):
        level = tally.next_level(level)
        at = many - left
        for symbol in ways_of(table):
            if symbol < text[at]:
                place += texts_from(tally, symbol, left, level, spent[at], cost)
    return place + sum([texts for other, texts in tally.costs(sum(level), many) if other < cost])


def means(table):
    """The least and the greatest mean of all rings."""
    check_table(table)
    check_size(table, MOST_STATES)
    above, below = least_mean(hops_of(table, -1))
    return least_mean(hops_of(table, 1)), (-above, below)


class Tally:
    """Counts ways to read on: for each cost, a number of bits, by itself, or for all costs at once.

    A LEVEL is for a number of symbols. It has an integer for each state, in which the numbers of ways
    stand in slots of `slot` bits: in the lowest one that for the least cost that so many symbols
    could have, then that for one bit more, and so on. So one sum of such integers adds the
    numbers for each cost. Where costs do not count, slots have no bits, and all falls into one number.
    """

    def __init__(self, table, many, is_by_cost):
        self.table = table
        self.reads = reads_of(table)
        self.least = min([bits for _, bits, _ in self.reads])
        self.most = max([bits for _, bits, _ in self.reads])
        ways = table.size() * power(len(ways_of(table)), many)
        self.slot = ways.bit_length() if is_by_cost else 0

    def first_level(self, last):
        """The level for no symbols, where readers must stand in the state `last`, or anywhere if it is None."""
        size = self.table.size()
        return [1 if last is None or state == last else 0 for state in range(size)]

    def next_level(self, level):
        """The level for one symbol more."""
        sums = sums_of_blocks(level, self.most)
        return [sums[bits][base >> bits] << ((bits - self.least) * self.slot) for _, bits, base in self.reads]

    def levels(self, many, last):
        """The levels for 0 to `many` symbols."""
        found = [self.first_level(last)]
        for _ in range(many):
            found.append(self.next_level(found[-1]))
        return found

    def number(self, packed, many, cost):
        """How many ways there are with a cost, of those in an integer of the level for `many` symbols."""
        if self.slot == 0:
            return packed
        at = (cost - many * self.least) * self.slot
        # The cost may be far from all that there are, and then no number stands there.
        if not 0 <= at < packed.bit_length():
            return 0
        return packed >> at & ((1 << self.slot) - 1)

    def costs(self, packed, many):
        """The tuples (cost, number), ascending, of an integer of the level for `many` symbols."""
        found = []
        least = many * self.least
        for cost in range(least, least + packed.bit_length() // self.slot + 1):
            number = self.number(packed, many, cost)
            if number > 0:
                found.append((cost, number))
        return found


def falls_in(rows, number):
    """The key of the row in which a number falls, and its number there, if rows (key, many) stand in line."""
    at = 0
    rest = number
    while rest >= rows[at][1]:
        rest -= rows[at][1]
        at += 1
    return rows[at][0], rest


def all_lengths(table, text):
    """The lengths of the streams of a text, for all last states."""
    found = [table.bits()] * table.size()
    for symbol in text:
        found = costs_behind(table, symbol, found)
    return found


def costs_behind(table, symbol, costs):
    """What is spent in each state behind a symbol, if `costs` are spent in the states in which it is read."""
    edge, wide, fronts = ways_of(table)[symbol]
    many = many_wide(edge, wide, len(costs))
    if edge == 0:
        return costs_of_blocks(costs, fronts[:many], wide)
    # The first states are reached from the last places, with one bit less.
    rest = fronts[many:len(fronts) // 2]
    return costs_of_blocks(costs, rest, wide - 1) + costs_of_blocks(costs, fronts[:many], wide)


def costs_of_blocks(costs, places, bits):
    """The costs in the blocks of 2 ** bits states that are reached from some places, one behind the other."""
    if bits == 0:
        return [costs[state] for state in places]
    many = 1 << bits
    found = []
    for state in places:
        found += [costs[state] + bits] * many
    return found


def counted_lengths(table, many):
    """The tuples (length, number), ascending, of all streams of `many` symbols."""
    tally = Tally(table, many, True)
    level = tally.first_level(None)
    for _ in range(many):
        level = tally.next_level(level)
    return [(table.bits() + cost, number) for cost, number in tally.costs(sum(level), many)]


def texts_from(tally, symbol, left, level, spent, cost):
    """How many ways with this symbol first, of the level for `left` symbols, make a cost with what is spent."""
    places = states_of(ways_of(tally.table)[symbol])
    return sum([tally.number(level[state], left, cost - spent[state]) for state in places])


def sums_of_blocks(items, most):
    """The sums of each 2 ** bits items that stand side by side, for 0 to `most` bits."""
    # The next states of a state are such a block: its base is a multiple of 2 ** bits, as L is.
    sums = [items]
    for _ in range(most):
        halves = sums[-1]
        sums.append([one + other for one, other in zip(halves[::2], halves[1::2])])
    return sums


def hops_of(table, sign):
    """The tuples (cost, base, end) of all states: the bits times a sign, and the next states, ahead of `end`."""
    return [(bits * sign, base, base + (1 << bits)) for _, bits, base in reads_of(table)]


def steps_of(hops):
    """The tuple (steps, blocks): the blocks (base, end) of several next states, each once, and a step for each hop.

    A step (cost, at) tells where the least sum of the next states stands, if the least sums of the
    blocks stand behind the sums of all states.
    """
    steps = []
    places = {}
    for cost, base, end in hops:
        if end > base + 1:
            steps.append((cost, len(hops) + places.setdefault((base, end), len(places))))
        else:
            steps.append((cost, base))
    return steps, list(places)


def further(steps, blocks, sums):
    """The least sums of costs from all states, with one hop more."""
    least = sums + [min(sums[base:end]) for base, end in blocks]
    return [cost + least[at] for cost, at in steps]


def levels_of(hops, sums, many):
    """The lists of the least sums of costs for 0 to `many` hops, beginning with `sums` for none."""
    steps, blocks = steps_of(hops)
    levels = [sums]
    for _ in range(many):
        levels.append(further(steps, blocks, levels[-1]))
    return levels


def levels_till_repeated(hops, many):
    """The tuple (levels, first): the levels for `many` hops, or for fewer if they begin to repeat.

    Then the last level is that with the index `first` and one number more for all states, and from
    there on all goes on as it went behind that; otherwise `first` is -1.
    """
    steps, blocks = steps_of(hops)
    sums = [0] * len(hops)
    levels = [sums]
    seen = {tuple(sums): 0}
    for turn in range(1, many + 1):
        sums = further(steps, blocks, sums)
        levels.append(sums)
        ahead = sums[0]
        shape = tuple([item - ahead for item in sums])
        if shape in seen:
            return levels, seen[shape]
        seen[shape] = turn
    return levels, -1


def least_sum(hops, many):
    """The least sum of the costs of `many` hops."""
    levels, first = levels_till_repeated(hops, many)
    last = len(levels) - 1
    if first < 0:
        return min(levels[last])
    rounds, rest = divmod(many - first, last - first)
    return min(levels[first + rest]) + rounds * (min(levels[last]) - min(levels[first]))


def least_text(table, hops, many):
    """The first text, in the order of lists, of those that can have the least sum of costs."""
    levels = levels_of(hops, [0] * len(hops), many)
    least = min(levels[many])
    states = [state for state, item in enumerate(levels[many]) if item == least]
    text = []
    for left in range(many, 0, -1):
        symbol = min([table.symbols[state] for state in states])
        text.append(symbol)
        readers = [state for state in states if table.symbols[state] == symbol]
        states = best_behind(hops, readers, levels[left], levels[left - 1])
    return text


def best_behind(hops, readers, sums, rests):
    """The states behind some readers that keep the least sums: `sums` with this hop, `rests` behind it."""
    found = set()
    for reader in readers:
        cost, base, end = hops[reader]
        for state in range(base, end):
            if cost + rests[state] == sums[reader]:
                found.add(state)
    return sorted(found)


def least_mean(hops):
    """The least mean of the costs of all rings."""
    many = len(hops)
    levels, first = levels_till_repeated(hops, TURNS_TO_REPEAT * many)
    if first >= 0:
        # From each state, so many hops more cost so much more, over and over: no ring costs less in the mean.
        return lowest(levels[-1][0] - levels[first][0], len(levels) - 1 - first)
    # Otherwise Karp's theorem tells it: by the sums for as many hops as there are states, and for fewer ones.
    best = greatest_slope(levels[:many + 1], 0)
    for state in range(1, many):
        slope = greatest_slope(levels[:many + 1], state)
        if is_less(slope, best):
            best = slope
    return lowest(best[0], best[1])


def greatest_slope(levels, state):
    """The greatest fraction by which the sum of a state grows from fewer hops up to the last level."""
    many = len(levels) - 1
    best = (levels[many][state] - levels[0][state], many)
    for turn in range(1, many):
        slope = (levels[many][state] - levels[turn][state], many - turn)
        if is_less(best, slope):
            best = slope
    return best


def is_less(one, other):
    """Whether a fraction is less than another one."""
    return one[0] * other[1] < other[0] * one[1]


def check_far(table, many):
    """Raises the errors of a table and a number of symbols that may be great."""
    check_table(table)
    check_within(many, 0, FARTHEST, "many")
    check_size(table, MOST_STATES)


def check_near(table, many):
    """Raises the errors of a table and a number of symbols of which texts are asked for."""
    check_far(table, many)
    if many > MOST_NEAR:
        raise LimitExceeded(MOST_NEAR)
