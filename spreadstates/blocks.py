"""Blocks of a text, each with a table by its name, whose state goes over from a block to the one ahead of it."""

from spreadstates.coding import spent_on, written
from spreadstates.tables import ways_of


class Block:
    """A text that is written by the table of a name, which nothing changes.

    `states` and `widths` are what `written` returns, and `spent` is the sum of the widths.
    """

    def __init__(self, name, text, states, widths):
        self.name = name
        self.text = text
        self.states = states
        self.widths = widths
        self.spent = sum(widths)


def block_of(table, name, text, last):
    """The block of a text, written from the state `last` on."""
    states, widths = written(ways_of(table), table.size(), text, last)
    return Block(name, text, states, widths)


def block_from(table, block, last):
    """A block that is written from another state on."""
    ways = ways_of(table)
    size = table.size()
    states = [last]
    widths = []
    state = last
    # As soon as writing comes to a state that it came to before at this place, all goes on as before.
    for symbol, known in zip(reversed(block.text), block.states[1:]):
        edge, wide, fronts = ways[symbol]
        if state < edge:
            wide -= 1
        state = fronts[(size + state) >> wide]
        states.append(state)
        widths.append(wide)
        if state == known:
            break
    many = len(widths)
    return Block(block.name, block.text, states + block.states[many + 1:], widths + block.widths[many:])


def parts_of(block, many):
    """The two blocks of the first `many` symbols of a block, and of its other ones."""
    rest = len(block.text) - many
    return [
        Block(block.name, block.text[:many], block.states[rest:], block.widths[rest:]),
        Block(block.name, block.text[many:], block.states[:rest + 1], block.widths[:rest]),
    ]


def joined_block(block, behind):
    """The block of two blocks with one name, of which the first one begins where the second one ends in writing."""
    return Block(block.name, block.text + behind.text, behind.states + block.states[1:], behind.widths + block.widths)


def least_names(named, texts, last):
    """The least bits of blocks over all ways to give each one the name of a table, and the first such names."""
    level = {last: 0}
    ways = []
    for text in reversed(texts):
        ways.append(ways_ahead(named, text, level))
        level = {}
        for _, start, total, _, _ in ways[-1]:
            if level.get(start, total) >= total:
                level[start] = total
    least = min(list(level.values()))
    # From the first block on, only what leads to the least bits in all is kept, with what is to be spent behind.
    wanted = {state: total for state, total in level.items() if total == least}
    names = []
    for rows in reversed(ways):
        kept = [row for row in rows if row[1] in wanted and row[2] == wanted[row[1]]]
        name = min([row[0] for row in kept])
        names.append(name)
        wanted = {behind: rest for other, _, _, behind, rest in kept if other == name}
    return least, names


def ways_ahead(named, text, level):
    """The tuples (name, start, total, behind, rest) of writing a block by all tables that have its symbols.

    `level` has the least bits that are spent behind the block, `rest`, for each state `behind` it.
    """
    rows = []
    for name, table in named.items():
        if fits(table, text):
            for behind, rest in level.items():
                bits, start = spent_on(ways_of(table), table.size(), text, behind)
                rows.append((name, start, rest + bits, behind, rest))
    return rows


def fits(table, text):
    """Whether a table has all symbols of a text."""
    known = ways_of(table)
    return not [symbol for symbol in sorted(set(text)) if symbol not in known]
