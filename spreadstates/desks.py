"""Desks: blocks with tables by names that make one stream, and calls that change them."""

from spreadstates.blocks import block_from, block_of, fits, joined_block, least_names, parts_of
from spreadstates.checks import LONGEST_TEXT, MOST_SYMBOLS, check_bits, check_stream, first_wrong, is_known_text
from spreadstates.coding import bits_along, number_at, read_from
from spreadstates.errors import InvalidBound, InvalidCall, LimitExceeded
from spreadstates.lengths import MOST_LENGTHS, costs_behind
from spreadstates.tables import Table, ways_of
from spreadstates.wholes import is_within

LONGEST_NAME = 8


class Desk:
    """Tables by names, a row of blocks, and a last state.

    `named` has the tables, `parts` the blocks, and `state` is the last state; each block is written from
    the state in which the next one begins. `many` and `total` are the numbers of all symbols and bits of
    the blocks. `done` has the calls that were done, and `backs` tells how they are taken back.
    """

    def __init__(self, bits):
        check_bits(bits)
        self.width = bits
        self.named = {}
        self.parts = []
        self.state = 0
        self.many = 0
        self.total = 0
        self.done = []
        self.backs = []

    def __eq__(self, other):
        if not isinstance(other, Desk) or self.width != other.width or self.state != other.state:
            return False
        return self.named == other.named and self.blocks() == other.blocks()

    def tables(self):
        """The tuples (name, table), ascending."""
        return [(name, Table(self.named[name].symbols)) for name in sorted(self.named)]

    def blocks(self):
        """The tuples (name, text) of all blocks."""
        return [(block.name, list(block.text)) for block in self.parts]

    def last(self):
        """The last state."""
        return self.state

    def do(self, call):
        """Does a call; returns how many bits the whole stream is longer than before."""
        step = step_of(self, call)
        if step is None:
            raise InvalidCall(call)
        before = self.total
        self.backs.append(taken(self, step))
        self.done.append(copied(call))
        return self.total - before

    def calls(self):
        """The calls that were done and not taken back."""
        return [copied(call) for call in self.done]

    def undo(self):
        """Takes the last call back; returns whether there was one."""
        if len(self.backs) == 0:
            return False
        take_back(self, self.backs.pop())
        self.done.pop()
        return True

    def written(self):
        """The stream of all blocks."""
        numbers = []
        widths = []
        for block in reversed(self.parts):
            numbers += block.states[:-1]
            widths += block.widths
        numbers.append(state_behind(self, 0))
        widths.append(self.width)
        return bits_along(numbers[::-1], widths[::-1])

    def length(self):
        """The number of bits of the stream of all blocks."""
        return self.width + self.total

    def costs(self):
        """The bits of all blocks."""
        return [block.spent for block in self.parts]

    def entries(self):
        """The states in which the blocks begin, and the last state."""
        return [block.states[-1] for block in self.parts] + [self.state]

    def read(self, stream):
        """Reads a list of bits by the tables and numbers of symbols of the blocks: the tuple (texts, last, used)."""
        check_stream(stream)
        state = number_at(stream, 0, self.width)
        used = self.width
        texts = []
        for block in self.parts:
            table = self.named[block.name]
            text, state, used = read_from(table, state, stream, used, len(block.text), False)
            texts.append(text)
        return texts, state, used

    def best_last(self):
        """The least length over all last states, and the least last state that has it."""
        check_parts(self, 1)
        found = [self.width] * (1 << self.width)
        for block in self.parts:
            for symbol in block.text:
                found = costs_behind(self.named[block.name], symbol, found)
        least = min(found)
        return least, found.index(least)

    def best_names(self):
        """The least length over all names that the blocks can have, and the first list of names that has it."""
        check_parts(self, len(self.named))
        least, names = least_names(self.named, [block.text for block in self.parts], self.state)
        return self.width + least, names


def replayed(bits, calls):
    """The desk behind a list of calls."""
    desk = Desk(bits)
    if not isinstance(calls, list):
        raise InvalidBound("calls")
    for call in calls:
        desk.do(call)
    return desk


def copied(call):
    """A call with lists of its own."""
    return tuple([list(part) if isinstance(part, list) else part for part in call])


def step_of(desk, call):
    """The step that a call takes, None for what is no call, or not possible.

    A step is ("table", name, table), with None instead of the table for a name that goes, ("last",
    state), or ("blocks", at, many, parts), where `many` blocks are replaced by some parts.
    """
    if not isinstance(call, tuple) or len(call) < 2 or not isinstance(call[0], str):
        return None
    shape = (call[0], len(call))
    if shape == ("table", 3):
        return table_step(desk, call[1], call[2])
    if shape == ("forget", 2):
        return forget_step(desk, call[1])
    if shape == ("block", 4):
        return block_step(desk, call[1], call[2], call[3])
    if shape == ("last", 2):
        return ("last", call[1]) if is_within(call[1], 0, (1 << desk.width) - 1) else None
    if not is_within(call[1], 0, len(desk.parts) - 1):
        return None
    if shape == ("drop", 2):
        return ("blocks", call[1], 1, [])
    if shape == ("cut", 3):
        return cut_step(desk, call[1], call[2])
    if shape == ("join", 2):
        return join_step(desk, call[1])
    return switch_step(desk, call[1], call[2]) if shape == ("switch", 3) else None


def table_step(desk, name, spread):
    """The step by which the table of a spread gets a name."""
    if not is_name(name) or not isinstance(spread, list) or len(spread) != 1 << desk.width:
        return None
    if first_wrong(spread, MOST_SYMBOLS - 1) >= 0:
        return None
    table = Table(spread)
    if not all([fits(table, block.text) for block in desk.parts if block.name == name]):
        return None
    return ("table", name, table)


def forget_step(desk, name):
    """The step by which a table goes."""
    if not is_known(desk, name) or name in [block.name for block in desk.parts]:
        return None
    return ("table", name, None)


def block_step(desk, at, name, text):
    """The step by which a block is put in."""
    if not is_within(at, 0, len(desk.parts)) or not is_known(desk, name):
        return None
    table = desk.named[name]
    if not is_known_text(text, ways_of(table)) or len(text) == 0 or len(text) + desk.many > LONGEST_TEXT:
        return None
    return ("blocks", at, 0, [block_of(table, name, list(text), state_behind(desk, at))])


def cut_step(desk, at, many):
    """The step by which a block becomes two."""
    block = desk.parts[at]
    if not is_within(many, 1, len(block.text) - 1):
        return None
    return ("blocks", at, 1, parts_of(block, many))


def join_step(desk, at):
    """The step by which a block and the next one become one."""
    if at + 1 == len(desk.parts):
        return None
    block = desk.parts[at]
    behind = desk.parts[at + 1]
    return ("blocks", at, 2, [joined_block(block, behind)]) if block.name == behind.name else None


def switch_step(desk, at, name):
    """The step by which a block gets a name."""
    block = desk.parts[at]
    if not is_known(desk, name) or not fits(desk.named[name], block.text):
        return None
    return ("blocks", at, 1, [block_of(desk.named[name], name, block.text, block.states[0])])


def state_behind(desk, at):
    """The state in which block number `at` begins, and all that stands behind it."""
    return desk.parts[at].states[-1] if at < len(desk.parts) else desk.state


def taken(desk, step):
    """Takes a step; returns what `take_back` needs: a name and its table, the last state, and blocks to put back."""
    name = None
    table = None
    state = desk.state
    at, many, blocks = len(desk.parts), 0, []
    if step[0] == "table":
        name = step[1]
        table = desk.named.get(name)
        set_table(desk, name, step[2])
        at, blocks = blocks_anew(desk, name)
        many = len(blocks)
    elif step[0] == "blocks":
        _, at, many, blocks = step
    else:
        desk.state = step[1]
    low, fresh = settled(desk, at, many, blocks)
    old = put_blocks(desk, low, at + many - low, fresh)
    return name, table, state, low, len(fresh), old


def take_back(desk, back):
    """Takes back what `taken` did."""
    name, table, state, low, many, blocks = back
    if name is not None:
        set_table(desk, name, table)
    desk.state = state
    put_blocks(desk, low, many, blocks)


def set_table(desk, name, table):
    """Gives a table a name, or takes the name away if it is None."""
    if table is None:
        del desk.named[name]
    else:
        desk.named[name] = table


def blocks_anew(desk, name):
    """The first block that has the name of another table now, and the blocks from there on to the last such one."""
    readers = [at for at, block in enumerate(desk.parts) if block.name == name]
    if len(readers) == 0:
        return len(desk.parts), []
    state = state_behind(desk, readers[-1] + 1)
    found = []
    for at in range(readers[-1], readers[0] - 1, -1):
        block = desk.parts[at]
        if block.name == name:
            block = block_of(desk.named[name], name, block.text, state)
        elif block.states[0] != state:
            block = block_from(desk.named[block.name], block, state)
        state = block.states[-1]
        found.append(block)
    return readers[0], found[::-1]


def settled(desk, at, many, blocks):
    """The blocks that come in the place of `many` ones, with those ahead whose states change; where they begin."""
    state = blocks[0].states[-1] if len(blocks) > 0 else state_behind(desk, at + many)
    low = at
    ahead = []
    while low > 0 and desk.parts[low - 1].states[0] != state:
        low -= 1
        block = desk.parts[low]
        ahead.append(block_from(desk.named[block.name], block, state))
        state = ahead[-1].states[-1]
    return low, ahead[::-1] + blocks


def put_blocks(desk, at, many, blocks):
    """Puts blocks in the place of `many` ones; returns these."""
    old = desk.parts[at:at + many]
    desk.parts[at:at + many] = blocks
    desk.many += many_symbols(blocks) - many_symbols(old)
    desk.total += sum([block.spent for block in blocks]) - sum([block.spent for block in old])
    return old


def many_symbols(blocks):
    """How many symbols some blocks have."""
    return sum([len(block.text) for block in blocks])


def is_name(value):
    """Whether a value is a name."""
    if not isinstance(value, str) or not 1 <= len(value) <= LONGEST_NAME:
        return False
    return all(["a" <= letter <= "z" for letter in value])


def is_known(desk, name):
    """Whether a value is the name of a table of a desk."""
    return isinstance(name, str) and name in desk.named


def check_parts(desk, times):
    """Raises LimitExceeded if the symbols of all blocks, times the states and `times`, are too many."""
    if desk.many * times << desk.width > MOST_LENGTHS:
        raise LimitExceeded(MOST_LENGTHS)
