"""Where writing leads from the states, which ones do alike in it, and which ones are never left."""

from spreadstates.tables import many_wide, ways_of


def leads_of(table, symbols):
    """Where writing some symbols leads: the tuple (shift, leads, costs).

    States do alike in blocks of 2 ** shift of them, one behind the other. For each symbol, `leads` has
    a list with the state in which it is read, and `costs` one with the bits that it costs, for each block.
    """
    ways = [ways_of(table)[symbol] for symbol in symbols]
    # From so many states that stand side by side, each symbol leads to one state.
    shift = min([wide if edge == 0 else wide - 1 for edge, wide, _ in ways])
    size = table.size()
    leads = []
    costs = []
    for edge, wide, fronts in ways:
        many = many_wide(edge, wide, size)
        column = []
        if edge > 0:
            column = repeated(fronts[many:len(fronts) // 2], 1 << (wide - 1 - shift))
        leads.append(column + repeated(fronts[:many], 1 << (wide - shift)))
        costs.append([wide - 1] * (edge >> shift) + [wide] * ((size - edge) >> shift))
    return shift, leads, costs


def repeated(items, times):
    """The items of a list, each so many times."""
    if times == 1:
        return items
    found = []
    for item in items:
        found += [item] * times
    return found


def parted(rows, keys):
    """Numbers for some places, the same ones for those that do alike.

    Places do alike if they have equal keys, and so have the places to which they lead, and so on.
    `rows` has for each place the list of itself and of the places to which it leads.
    """
    labels = {key: at for at, key in enumerate(keys)}
    numbers = [labels[key] for key in keys]
    many = 1
    # Places are parted by the numbers of those to which they lead, until nothing is parted any more.
    while len(labels) > many:
        many = len(labels)
        told = [tuple([numbers[place] for place in row]) for row in rows]
        labels = {key: at for at, key in enumerate(told)}
        numbers = [labels[key] for key in told]
    return numbers


def closed_in(leads):
    """The closed classes of places, ascending; `leads` has for each place those to which it leads."""
    reaches = reaches_in(leads)
    found = []
    for place, reach in enumerate(reaches):
        if reach >> place & 1:
            places = places_of(reach)
            if places[0] == place and all([reaches[other] == reach for other in places]):
                found.append(places)
    return found


def reaches_in(leads):
    """For each place, those to which it leads at last, as bits of an integer."""
    reaches = []
    for places in leads:
        reach = 0
        for place in places:
            reach |= 1 << place
        reaches.append(reach)
    for through in range(len(leads)):
        beyond = reaches[through]
        reaches = [reach | beyond if reach >> through & 1 else reach for reach in reaches]
    return reaches


def places_of(reach):
    """The ascending list of the places that are bits of an integer."""
    return [place for place in range(reach.bit_length()) if reach >> place & 1]
