"""Tables and last states that do alike."""

from spreadstates.checks import MOST_SYMBOLS, first_wrong
from spreadstates.errors import InvalidBound
from spreadstates.lengths import MOST_STATES
from spreadstates.tables import Table, check_size, check_state, check_table, ways_back


def alike_classes(table):
    """The classes of the states that are alike, as ascending lists, ascending."""
    check_table(table)
    check_size(table, MOST_STATES)
    classes = {}
    for state, number in enumerate(class_numbers([table])):
        classes.setdefault(number, []).append(state)
    return list(classes.values())


def first_apart(table, last, other, other_last):
    """The shortest and then least text that costs unlike numbers of bits from two last states, or None."""
    check_table(table)
    check_state(table, last, "last")
    check_other(table, other)
    check_state(other, other_last, "other_last")
    check_sizes(table, other)
    return first_told(table, costs_back(table), last, costs_back(other), other_last)


def partner(table, last, other):
    """The least last state of another table that is alike to one of the first table, or None."""
    check_table(table)
    check_state(table, last, "last")
    check_other(table, other)
    check_sizes(table, other)
    numbers = class_numbers([table, other])
    others = numbers[table.size():]
    return others.index(numbers[last]) if numbers[last] in others else None


def are_alike(table, other):
    """Whether each state of each of two tables has one in the other that is alike."""
    check_table(table)
    check_other(table, other)
    check_sizes(table, other)
    numbers = class_numbers([table, other])
    return set(numbers[:table.size()]) == set(numbers[table.size():])


def renamed(table, names):
    """The table in which the symbols, in ascending order, are replaced by names."""
    check_table(table)
    if not are_names(names, len(table.ways)):
        raise InvalidBound("names")
    named = dict(zip(table.ways, names))
    return Table([named[symbol] for symbol in table.symbols])


def renaming(table, other):
    """The names with which the first table becomes the other one, or None."""
    check_table(table)
    if not isinstance(other, Table):
        raise InvalidBound("other")
    if table.size() != other.size():
        return None
    named = dict(zip(table.symbols, other.symbols))
    names = [named[symbol] for symbol in table.ways]
    if len(names) != len(other.ways) or [named[symbol] for symbol in table.symbols] != other.symbols:
        return None
    return names


def written_apart(table, last, other_last):
    """The shortest and then least text that is written with unlike bits from two last states, or None."""
    check_table(table)
    check_state(table, last, "last")
    check_state(table, other_last, "other_last")
    check_size(table, MOST_STATES)
    ways = bits_back(table)
    return first_told(table, ways, last, ways, other_last)


def costs_back(table):
    """For each state, a tuple (place, bits) for each symbol: where writing leads, and what it costs."""
    columns = [ways_back(table, symbol) for symbol in table.ways]
    return [[column[state][:2] for column in columns] for state in range(table.size())]


def bits_back(table):
    """For each state, a tuple (place, told) for each symbol, with the bits that are written, as a tuple."""
    columns = [ways_back(table, symbol) for symbol in table.ways]
    return [[(column[state][0], column[state][1:]) for column in columns] for state in range(table.size())]


def class_numbers(tables):
    """Numbers for the states of some tables, one table behind the other: those that are alike have the same."""
    rows = []
    for table in tables:
        ahead = len(rows)
        rows.extend([[(ahead + place, bits) for place, bits in row] for row in costs_back(table)])
    # States are first parted by what their symbols cost, and then by the numbers of the states that
    # they lead to, until nothing is parted any more.
    numbers = numbered([tuple([bits for _, bits in row]) for row in rows])
    many = 0
    while max(numbers) + 1 > many:
        many = max(numbers) + 1
        told = [tuple([numbers[place] for place, _ in row]) for row in rows]
        numbers = numbered(list(zip(numbers, told)))
    return numbers


def numbered(keys):
    """Numbers from 0 on for a list of keys, in the order in which they first stand there."""
    numbers = {}
    for key in keys:
        numbers.setdefault(key, len(numbers))
    return [numbers[key] for key in keys]


def first_told(table, ways, last, others, other_last):
    """The first text whose writing tells two states apart, or None.

    `ways` and `others` have a tuple (place, told) for each symbol, for each state.
    """
    seen = set()
    seen.add((last, other_last))
    level = [(last, other_last, [])]
    while len(level) > 0:
        longer = []
        # Texts grow at their front, as they are written: shorter ones first, and of those the least from behind.
        for state, opposite, text in level:
            for symbol, (place, told), (there, heard) in zip(table.ways, ways[state], others[opposite]):
                if told != heard:
                    return [symbol] + text
                if (place, there) not in seen:
                    seen.add((place, there))
                    longer.append((place, there, [symbol] + text))
        level = longer
    return None


def are_names(value, many):
    """Whether a value is a list of so many unlike symbols."""
    if not isinstance(value, list) or len(value) != many or first_wrong(value, MOST_SYMBOLS - 1) >= 0:
        return False
    return len(set(value)) == many


def check_other(table, other):
    """Raises InvalidBound for what is no table with the same symbols."""
    if not isinstance(other, Table) or list(other.ways) != list(table.ways):
        raise InvalidBound("other")


def check_sizes(table, other):
    """Raises LimitExceeded if one of two tables has too many states."""
    check_size(table, MOST_STATES)
    check_size(other, MOST_STATES)
