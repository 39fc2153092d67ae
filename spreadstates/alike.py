"""Tables and last states that do alike."""

from spreadstates.checks import MOST_SYMBOLS, first_wrong
from spreadstates.errors import InvalidBound
from spreadstates.leads import leads_of, parted
from spreadstates.lengths import MOST_STATES
from spreadstates.tables import Table, check_size, check_state, check_table, ways_of


def alike_classes(table):
    """The classes of the states that are alike, as ascending lists, ascending."""
    check_table(table)
    check_size(table, MOST_STATES)
    numbers, shifts = class_numbers([table])
    many = 1 << shifts[0]
    classes = {}
    for at, number in enumerate(numbers):
        states = classes.setdefault(number, [])
        states += list(range(at * many, (at + 1) * many))
    return list(classes.values())


def first_apart(table, last, other, other_last):
    """The shortest and then least text that costs unlike numbers of bits from two last states, or None."""
    check_table(table)
    check_state(table, last, "last")
    check_other(table, other)
    check_state(other, other_last, "other_last")
    check_sizes(table, other)
    return first_told([table, other], last, other_last, False)


def partner(table, last, other):
    """The least last state of another table that is alike to one of the first table, or None."""
    check_table(table)
    check_state(table, last, "last")
    check_other(table, other)
    check_sizes(table, other)
    numbers, shifts = class_numbers([table, other])
    others = numbers[table.size() >> shifts[0]:]
    own = numbers[last >> shifts[0]]
    return others.index(own) << shifts[1] if own in others else None


def are_alike(table, other):
    """Whether each state of each of two tables has one in the other that is alike."""
    check_table(table)
    check_other(table, other)
    check_sizes(table, other)
    numbers, shifts = class_numbers([table, other])
    many = table.size() >> shifts[0]
    return set(numbers[:many]) == set(numbers[many:])


def renamed(table, names):
    """The table in which the symbols, in ascending order, are replaced by names."""
    check_table(table)
    if not are_names(names, len(ways_of(table))):
        raise InvalidBound("names")
    named = dict(zip(ways_of(table), names))
    return Table([named[symbol] for symbol in table.symbols])


def renaming(table, other):
    """The names with which the first table becomes the other one, or None."""
    check_table(table)
    if not isinstance(other, Table):
        raise InvalidBound("other")
    if table.size() != other.size():
        return None
    named = dict(zip(table.symbols, other.symbols))
    names = [named[symbol] for symbol in ways_of(table)]
    if len(names) != len(ways_of(other)) or [named[symbol] for symbol in table.symbols] != other.symbols:
        return None
    return names


def written_apart(table, last, other_last):
    """The shortest and then least text that is written with unlike bits from two last states, or None."""
    check_table(table)
    check_state(table, last, "last")
    check_state(table, other_last, "other_last")
    check_size(table, MOST_STATES)
    return first_told([table, table], last, other_last, True)


def class_numbers(tables):
    """Numbers for blocks of states of some tables, the same ones for those that are alike, and a shift for each table.

    The blocks of a table are 2 ** shift states each, one behind the other.
    """
    rows = []
    keys = []
    shifts = []
    for table in tables:
        ahead = len(rows)
        shift, leads, costs = leads_of(table, list(ways_of(table)))
        for at in range(table.size() >> shift):
            rows.append([ahead + at] + [ahead + (column[at] >> shift) for column in leads])
            keys.append(tuple([column[at] for column in costs]))
        shifts.append(shift)
    return parted(rows, keys), shifts


def first_told(tables, last, other_last, is_by_bits):
    """The first text that two last states tell apart, by its cost, or with `is_by_bits` by its bits, or None."""
    symbols = list(ways_of(tables[0]))
    shift, leads, costs = leads_of(tables[0], symbols)
    other_shift, other_leads, other_costs = leads_of(tables[1], symbols)
    columns = list(zip(symbols, leads, costs, other_leads, other_costs))
    # All costs hang on the blocks of the states alone, but the bits hang on the states themselves.
    fine = 0 if is_by_bits else shift
    other_fine = 0 if is_by_bits else other_shift
    seen = set()
    seen.add((last >> fine, other_last >> other_fine))
    level = [(last, other_last, [])]
    while len(level) > 0:
        longer = []
        # Texts grow at their front, as they are written: shorter ones first, and of those the least from behind.
        for state, opposite, text in level:
            at = state >> shift
            there = opposite >> other_shift
            for symbol, lead, cost, other_lead, other_cost in columns:
                bits = cost[at]
                if bits != other_cost[there] or is_by_bits and (state ^ opposite) & ((1 << bits) - 1) > 0:
                    return [symbol] + text
                place = (lead[at] >> fine, other_lead[there] >> other_fine)
                if place not in seen:
                    seen.add(place)
                    longer.append((lead[at], other_lead[there], [symbol] + text))
        level = longer
    return None


def are_names(value, many):
    """Whether a value is a list of so many unlike symbols."""
    if not isinstance(value, list) or len(value) != many or first_wrong(value, MOST_SYMBOLS - 1) >= 0:
        return False
    return len(set(value)) == many


def check_other(table, other):
    """Raises InvalidBound for what is no table with the same symbols."""
    if not isinstance(other, Table) or list(ways_of(other)) != list(ways_of(table)):
        raise InvalidBound("other")


def check_sizes(table, other):
    """Raises LimitExceeded if one of two tables has too many states."""
    check_size(table, MOST_STATES)
    check_size(other, MOST_STATES)
