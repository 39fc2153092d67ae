"""Desks: blocks with tables by names that make one stream, and calls that change them."""

from spreadstates.blocks import carried, cost_ahead, fits, least_names
from spreadstates.checks import LONGEST_TEXT, MOST_SYMBOLS, check_bits, check_stream, first_wrong, is_text
from spreadstates.coding import laid, number_at, passed_from
from spreadstates.errors import InvalidBound, InvalidCall, LimitExceeded
from spreadstates.lengths import MOST_LENGTHS, costs_behind
from spreadstates.tables import Table
from spreadstates.wholes import is_within

LONGEST_NAME = 8


class Desk:
    """Tables by names, a row of blocks, and a last state.

    `named` has the tables, `parts` the tuples (name, text) of the blocks, `spent` their bits, and
    `starts` the states in which they begin, with the last state behind them. `many` and `total` are
    the numbers of all symbols and bits of the blocks. `done` has the calls that were done, and `backs`
    the steps that take them back.
    """

    def __init__(self, bits):
        check_bits(bits)
        self.width = bits
        self.named = {}
        self.parts = []
        self.spent = []
        self.starts = [0]
        self.many = 0
        self.total = 0
        self.done = []
        self.backs = []

    def __eq__(self, other):
        if not isinstance(other, Desk) or self.width != other.width or self.starts[-1] != other.starts[-1]:
            return False
        return self.named == other.named and self.parts == other.parts

    def tables(self):
        """The tuples (name, table), ascending."""
        return [(name, Table(self.named[name].symbols)) for name in sorted(self.named)]

    def blocks(self):
        """The tuples (name, text) of all blocks."""
        return [(name, list(text)) for name, text in self.parts]

    def last(self):
        """The last state."""
        return self.starts[-1]

    def do(self, call):
        """Does a call; returns how many bits the whole stream is longer than before."""
        step = step_of(self, call)
        if step is None:
            raise InvalidCall(call)
        before = self.total
        self.backs.append(taken(self, step))
        self.done.append(copied(call))
        return self.total - before

    def calls(self):
        """The calls that were done and not taken back."""
        return [copied(call) for call in self.done]

    def undo(self):
        """Takes the last call back; returns whether there was one."""
        if len(self.backs) == 0:
            return False
        taken(self, self.backs.pop())
        self.done.pop()
        return True

    def written(self):
        """The stream of all blocks."""
        tables = [self.named[name] for name, _ in self.parts]
        passed, state = carried(tables, [text for _, text in self.parts], self.starts[-1])
        passed.append((state, self.width))
        return laid(passed)

    def length(self):
        """The number of bits of the stream of all blocks."""
        return self.width + self.total

    def costs(self):
        """The bits of all blocks."""
        return list(self.spent)

    def entries(self):
        """The states in which the blocks begin, and the last state."""
        return list(self.starts)

    def read(self, stream):
        """Reads a list of bits by the tables and numbers of symbols of the blocks: the tuple (texts, last, used)."""
        check_stream(stream)
        state = number_at(stream, 0, self.width)
        used = self.width
        texts = []
        for name, text in self.parts:
            passed, state, used = passed_from(self.named[name], state, stream, used, len(text))
            texts.append([symbol for _, symbol, _, _ in passed])
        return texts, state, used

    def best_last(self):
        """The least length over all last states, and the least last state that has it."""
        check_parts(self, 1)
        found = [self.width] * (1 << self.width)
        for name, text in self.parts:
            for symbol in text:
                found = costs_behind(self.named[name], symbol, found)
        least = min(found)
        return least, found.index(least)

    def best_names(self):
        """The least length over all names that the blocks can have, and the first list of names that has it."""
        check_parts(self, len(self.named))
        least, names = least_names(self.named, [text for _, text in self.parts], self.starts[-1])
        return self.width + least, names


def replayed(bits, calls):
    """The desk behind a list of calls."""
    desk = Desk(bits)
    if not isinstance(calls, list):
        raise InvalidBound("calls")
    for call in calls:
        desk.do(call)
    return desk


def copied(call):
    """A call with lists of its own."""
    return tuple([list(part) if isinstance(part, list) else part for part in call])


def step_of(desk, call):
    """The step that a call takes, None for what is no call, or not possible.

    A step is ("table", name, table), with None instead of the table for a name that goes, ("last",
    state), or ("blocks", at, many, parts), where `many` blocks are replaced by some parts.
    """
    if not isinstance(call, tuple) or len(call) < 2 or not isinstance(call[0], str):
        return None
    shape = (call[0], len(call))
    if shape == ("table", 3):
        return table_step(desk, call[1], call[2])
    if shape == ("forget", 2):
        return forget_step(desk, call[1])
    if shape == ("block", 4):
        return block_step(desk, call[1], call[2], call[3])
    if shape == ("last", 2):
        return ("last", call[1]) if is_within(call[1], 0, (1 << desk.width) - 1) else None
    if not is_within(call[1], 0, len(desk.parts) - 1):
        return None
    if shape == ("drop", 2):
        return ("blocks", call[1], 1, [])
    if shape == ("cut", 3):
        return cut_step(desk, call[1], call[2])
    if shape == ("join", 2):
        return join_step(desk, call[1])
    return switch_step(desk, call[1], call[2]) if shape == ("switch", 3) else None


def table_step(desk, name, spread):
    """The step by which the table of a spread gets a name."""
    if not is_name(name) or not isinstance(spread, list) or len(spread) != 1 << desk.width:
        return None
    if first_wrong(spread, MOST_SYMBOLS - 1) >= 0:
        return None
    table = Table(spread)
    if not all([fits(table, text) for other, text in desk.parts if other == name]):
        return None
    return ("table", name, table)


def forget_step(desk, name):
    """The step by which a table goes."""
    if not is_known(desk, name) or name in [other for other, _ in desk.parts]:
        return None
    return ("table", name, None)


def block_step(desk, at, name, text):
    """The step by which a block is put in."""
    if not is_within(at, 0, len(desk.parts)) or not is_known(desk, name):
        return None
    if not is_text(text) or len(text) == 0 or not fits(desk.named[name], text):
        return None
    if len(text) + desk.many > LONGEST_TEXT:
        return None
    return ("blocks", at, 0, [(name, list(text))])


def cut_step(desk, at, many):
    """The step by which a block becomes two."""
    name, text = desk.parts[at]
    if not is_within(many, 1, len(text) - 1):
        return None
    return ("blocks", at, 1, [(name, text[:many]), (name, text[many:])])


def join_step(desk, at):
    """The step by which a block and the next one become one."""
    if at + 1 == len(desk.parts):
        return None
    name, text = desk.parts[at]
    other, more = desk.parts[at + 1]
    return ("blocks", at, 2, [(name, text + more)]) if other == name else None


def switch_step(desk, at, name):
    """The step by which a block gets a name."""
    _, text = desk.parts[at]
    if not is_known(desk, name) or not fits(desk.named[name], text):
        return None
    return ("blocks", at, 1, [(name, text)])


def taken(desk, step):
    """Takes a step; returns the step that takes it back."""
    if step[0] == "table":
        return table_taken(desk, step[1], step[2])
    if step[0] == "blocks":
        return blocks_taken(desk, step[1], step[2], step[3])
    back = ("last", desk.starts[-1])
    desk.starts[-1] = step[1]
    settle(desk, len(desk.parts) - 1, len(desk.parts) - 1)
    return back


def table_taken(desk, name, table):
    """Gives a table a name, or takes the name away; returns the step that takes this back."""
    back = ("table", name, desk.named.get(name))
    if table is None:
        del desk.named[name]
    else:
        desk.named[name] = table
    readers = [at for at, (other, _) in enumerate(desk.parts) if other == name]
    if len(readers) > 0:
        settle(desk, readers[-1], readers[0])
    return back


def blocks_taken(desk, at, many, parts):
    """Replaces blocks by some parts; returns the step that takes this back."""
    old = desk.parts[at:at + many]
    desk.many += many_symbols(parts) - many_symbols(old)
    desk.total -= sum(desk.spent[at:at + many])
    desk.parts[at:at + many] = parts
    desk.spent[at:at + many] = [0] * len(parts)
    # What is ahead was written from the state that stood here, until `settle` finds another one.
    desk.starts[at:at + many] = [desk.starts[at]] * len(parts)
    low = at if len(parts) > 0 else at - 1
    settle(desk, low + max(0, len(parts) - 1), low)
    return ("blocks", at, len(parts), old)


def settle(desk, top, low):
    """Finds bits and states of the blocks from `top` down to `low` anew, and on ahead as long as states change."""
    for at in range(top, -1, -1):
        name, text = desk.parts[at]
        bits, start = cost_ahead(desk.named[name], text, desk.starts[at + 1])
        is_same = desk.starts[at] == start
        desk.total += bits - desk.spent[at]
        desk.spent[at] = bits
        desk.starts[at] = start
        if is_same and at <= low:
            return


def many_symbols(parts):
    """How many symbols some blocks have."""
    return sum([len(text) for _, text in parts])


def is_name(value):
    """Whether a value is a name."""
    if not isinstance(value, str) or not 1 <= len(value) <= LONGEST_NAME:
        return False
    return all(["a" <= letter <= "z" for letter in value])


def is_known(desk, name):
    """Whether a value is the name of a table of a desk."""
    return isinstance(name, str) and name in desk.named


def check_parts(desk, times):
    """Raises LimitExceeded if the symbols of all blocks, times the states and `times`, are too many."""
    if desk.many * times << desk.width > MOST_LENGTHS:
        raise LimitExceeded(MOST_LENGTHS)
