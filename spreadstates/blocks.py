"""Blocks of a text, each with its table, whose state goes over from a block to the one ahead of it."""

from spreadstates.coding import written


def carried(tables, texts, last):
    """What writing blocks goes through from the last one to the first one, and the state that is reached at last."""
    passed = []
    state = last
    for index in range(len(texts) - 1, -1, -1):
        more, state = written(tables[index], texts[index], state)
        passed.extend(more)
    return passed, state


def cost_ahead(table, text, last):
    """The bits of a block, and the state in which it begins."""
    passed, state = written(table, text, last)
    return sum([bits for _, bits in passed]), state


def least_names(named, texts, last):
    """The least bits of blocks over all ways to give each one the name of a table, and the first such names."""
    level = {last: 0}
    ways = []
    for text in reversed(texts):
        ways.append(ways_ahead(named, text, level))
        level = {}
        for _, start, total, _, _ in ways[-1]:
            if level.get(start, total) >= total:
                level[start] = total
    least = min(list(level.values()))
    # From the first block on, only what leads to the least bits in all is kept, with what is to be spent behind.
    wanted = {state: total for state, total in level.items() if total == least}
    names = []
    for rows in reversed(ways):
        kept = [row for row in rows if row[1] in wanted and row[2] == wanted[row[1]]]
        name = min([row[0] for row in kept])
        names.append(name)
        wanted = {behind: rest for other, _, _, behind, rest in kept if other == name}
    return least, names


def ways_ahead(named, text, level):
    """The tuples (name, start, total, behind, rest) of writing a block by all tables that have its symbols.

    `level` has the least bits that are spent behind the block, `rest`, for each state `behind` it.
    """
    rows = []
    for name, table in named.items():
        if fits(table, text):
            for behind, rest in level.items():
                bits, start = cost_ahead(table, text, behind)
                rows.append((name, start, rest + bits, behind, rest))
    return rows


def fits(table, text):
    """Whether a table has all symbols of a text."""
    return all([symbol in table.ways for symbol in text])
