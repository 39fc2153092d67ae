"""Damage: what changed bits of streams do to their readers."""

from spreadstates.checks import check_flag, check_many, check_stream, check_within
from spreadstates.coding import check_end, check_reading, places_from, places_in
from spreadstates.errors import InvalidBound, InvalidStream, LimitExceeded
from spreadstates.reading import read_on
from spreadstates.streams import idle_runs
from spreadstates.tables import check_size, check_state, check_table, reads_of, ways_of
from spreadstates.turning import codes_of, first_unseen_way, pairs_behind, turned_pairs, verdicts_on
from spreadstates.wholes import bits_of, is_within, number_of, power

LONGEST_BITS = 12
MOST_READERS = 16
MOST_TURNED = 64
MOST_STREAMS = 2000


def changed(stream, change):
    """The stream that is changed."""
    check_stream(stream)
    check_change(stream, change)
    return with_change(stream, change)


def verdict(table, stream, many, last=None):
    """What a reader of `many` symbols finds, who expects the end `last` if this is not None."""
    check_reading(table, stream, many)
    check_end(table, last)
    width = table.bits()
    if len(stream) < width:
        return ("head",)
    passed, state, used = read_on(reads_of(table), number_of(stream[:width]), stream, width, many, False)
    return verdict_behind(len(passed), state, used, stream, many, last)


def harm(table, stream, change, many, last=None):
    """The verdict on a changed stream, the first other symbol, and where both readings meet again."""
    check_table(table)
    check_stream(stream)
    check_change(stream, change)
    check_many(many)
    check_end(table, last)
    places = places_in(table, stream, many)
    if len(places) <= many:
        raise InvalidStream(len(stream))
    if places[many][1] < len(stream):
        raise InvalidStream(places[many][1])
    other = with_change(stream, change)
    others = places_in(table, other, many)
    found = verdict_of(others, other, many, last)
    return found, first_other(table, places, others), first_meeting(places, stream, others, other)


def meeting(table, stream, one, other):
    """The tuple (i, j) of the symbols behind which readers from two states meet, or None."""
    check_table(table)
    check_stream(stream)
    check_state(table, one, "one")
    check_state(table, other, "other")
    if len(ways_of(table)) == 1:
        return (0, 0) if one == other else None
    idle = idle_runs(table)
    here = (0, 0, one)
    there = (0, 0, other)
    while here is not None and there is not None:
        # Readers who stand at one bit meet there just if both go on to one state that needs bits.
        if here[1] == there[1] and idle[here[2]][1] == idle[there[2]][1]:
            return met(table, here, there)
        if here[1] <= there[1]:
            here = gone_on(table, idle, stream, here)
        else:
            there = gone_on(table, idle, stream, there)
    return None


def meeting_bits(table, most):
    """The shortest and first list of at most `most` bits behind which all readers stand in one state, or None."""
    check_table(table)
    check_within(most, 0, LONGEST_BITS, "most")
    check_size(table, MOST_READERS)
    if len(ways_of(table)) == 1:
        return None
    rests = [state for _, state in idle_runs(table)]
    # A reader is a tuple (state, bits, number) with the bits so far that are too few for the state.
    readers = tuple(sorted({(state, 0, 0) for state in rests}))
    seen = set()
    seen.add(readers)
    level = [([], readers)]
    for _ in range(most + 1):
        longer = []
        for stream, readers in level:
            if len(readers) == 1:
                return stream
            for bit in (0, 1):
                others = tuple(sorted({with_bit(table, rests, reader, bit) for reader in readers}))
                if others not in seen:
                    seen.add(others)
                    longer.append((stream + [bit], others))
        level = longer
    return None


def turn_counts(table, many):
    """How many turned bits of all right streams are told as short, left or another end, and how many are not."""
    check_turning(table, many)
    check_streams(table, many)
    if len(ways_of(table)) == 1:
        # No symbol costs bits, so a turned bit makes another state, which is the end.
        return 0, 0, table.size() * table.bits(), 0
    width = table.bits()
    codes = codes_of(table, many)
    told = [0, 0, 0, 0]
    pairs = {pair: 1 for state in range(table.size()) for pair in turned_pairs(state, width)}
    paths = [1] * table.size()
    for left in range(many, -1, -1):
        for (state, other), turned in pairs.items():
            found = verdicts_on(codes[left][state], codes[left][other], width)
            told = [number + turned * more for number, more in zip(told, found)]
        if left > 0:
            pairs, paths = pairs_behind(table, paths)
    return tuple(told)


def first_unseen(table, many, is_end_known):
    """The first right stream, with the first bit of it that can be turned unseen, or None."""
    check_turning(table, many)
    check_flag(is_end_known, "is_end_known")
    check_streams(table, many)
    width = table.bits()
    if len(ways_of(table)) == 1:
        return None if is_end_known else ([0] * width, 0)
    codes = codes_of(table, many)
    found = first_unseen_way(table, codes, 0 if is_end_known else width)
    if found is None:
        return None
    stream = stream_on(table, codes, found[0], found[1])
    places = places_in(table, stream, many)
    end = places[many][0] if is_end_known else None
    readings = turned_readings(table, stream, places)
    at = 0
    while verdict_of(readings[at], stream, many, end) != ("good",):
        at += 1
    return stream, at


def is_change(value, many):
    """Whether a value is a change of a stream of so many bits."""
    if not isinstance(value, tuple) or len(value) not in (2, 3) or not isinstance(value[0], str):
        return False
    if len(value) == 2:
        return value[0] in ("turn", "drop") and is_within(value[1], 0, many - 1)
    return value[0] == "put" and is_within(value[1], 0, many) and is_within(value[2], 0, 1)


def with_change(stream, change):
    """The stream that is changed by what is a change of it."""
    word, at = change[0], change[1]
    if word == "turn":
        return stream[:at] + [1 - stream[at]] + stream[at + 1:]
    if word == "drop":
        return stream[:at] + stream[at + 1:]
    return stream[:at] + [change[2]] + stream[at:]


def verdict_of(places, stream, many, last):
    """The verdict on a stream in which a reader comes to some places."""
    if not places:
        return ("head",)
    state, used = places[-1]
    return verdict_behind(len(places) - 1, state, used, stream, many, last)


def verdict_behind(read, state, used, stream, many, last):
    """The verdict on a stream of which so many symbols are read, up to a state and a number of bits."""
    if read < many:
        return ("short", read)
    if used < len(stream):
        return ("left", used)
    if last is not None and state != last:
        return ("end", state)
    return ("good",)


def first_other(table, places, others):
    """The index of the first symbol that differs in two readings, as far as both have all its bits, or None."""
    symbols = table.symbols
    # Behind the last place there are no bits, or no symbols, so there is no symbol to look at.
    for at, ((state, _), (other, _)) in enumerate(zip(places[:-1], others[:-1])):
        if symbols[state] != symbols[other]:
            return at
    return None


def first_meeting(places, stream, others, other):
    """The numbers of symbols that first lead to one state with the same bits left in two streams, or None."""
    same = many_same_behind(stream, other)
    numbers = {}
    for at, (state, used) in enumerate(others):
        left = len(other) - used
        if left <= same:
            numbers.setdefault((state, left), at)
    for at, (state, used) in enumerate(places):
        place = (state, len(stream) - used)
        if place in numbers:
            return at, numbers[place]
    return None


def many_same_behind(one, other):
    """How many bits at their ends are the same in two streams."""
    many = 0
    for bit, opposite in zip(one[::-1], other[::-1]):
        if bit != opposite:
            return many
        many += 1
    return many


def gone_on(table, idle, stream, reader):
    """The reader, a tuple (many, used, state), behind the next bits that it needs; None if there are too few."""
    many, used, state = reader
    symbols, rest = idle[state]
    _, bits, base = reads_of(table)[rest]
    if used + bits > len(stream):
        return None
    return many + symbols + 1, used + bits, base + number_of(stream[used:used + bits])


def met(table, here, there):
    """The numbers of symbols behind which two readers meet who go on to one state without bits."""
    ways = {}
    for more, state in enumerate(idle_states(table, there[2])):
        ways[state] = there[0] + more
    states = idle_states(table, here[2])
    more = 0
    while states[more] not in ways:
        more += 1
    return here[0] + more, ways[states[more]]


def idle_states(table, first):
    """The states to which a reader goes on without bits, the first one in front."""
    states = [first]
    _, bits, base = reads_of(table)[first]
    while bits == 0:
        states.append(base)
        _, bits, base = reads_of(table)[base]
    return states


def with_bit(table, rests, reader, bit):
    """The reader, a tuple (state, bits, number), behind one bit more, going on as long as it can."""
    state, bits, number = reader
    _, wide, base = reads_of(table)[state]
    if bits + 1 < wide:
        return state, bits + 1, 2 * number + bit
    return rests[base + 2 * number + bit], 0, 0


def stream_on(table, codes, state, way):
    """The stream that begins in a state and goes on by a way of its code, which is among the last ones of the codes."""
    most = max([bits for _, bits, _ in reads_of(table)])
    spare = (len(codes) - 1) * most
    length = codes[-1][state][way] >> table.bits()
    return bits_of(state, table.bits()) + [way >> (spare - 1 - at) & 1 for at in range(length)]


def turned_readings(table, stream, places):
    """For each bit of a right stream, the places of a reader of the stream with this bit turned."""
    readings = []
    used = 0
    for at, (state, behind) in enumerate(places):
        for _, other in turned_pairs(state, behind - used)[::-1]:
            others = places_from(table, other, stream, behind, len(places) - 1 - at)
            readings.append(places[:at] + others)
        used = behind
    return readings


def check_change(stream, change):
    """Raises InvalidBound for what is no change of a stream."""
    if not is_change(change, len(stream)):
        raise InvalidBound("change")


def check_turning(table, many):
    """Raises the errors of a table and a number of symbols of which all streams are looked at."""
    check_table(table)
    check_within(many, 0, MOST_TURNED, "many")


def check_streams(table, many):
    """Raises LimitExceeded if there are more right streams than can be looked at one by one."""
    if table.size() * power(len(ways_of(table)), many) > MOST_STREAMS:
        raise LimitExceeded(MOST_STREAMS)
