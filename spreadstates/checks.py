"""What arguments must be, as far as several files of the package ask for it."""

from spreadstates.errors import InvalidBound, InvalidSpread, InvalidStream, InvalidSymbol, InvalidText
from spreadstates.wholes import is_integer, is_within

MOST_SYMBOLS = 1000
LONGEST_TEXT = 10000
GREATEST_NUMBER = 10 ** 30
MOST_BITS = 12


def is_symbol(value):
    """Whether a value is a symbol."""
    return is_within(value, 0, MOST_SYMBOLS - 1)


def is_size(total):
    """Whether an integer is an L, a number of states."""
    return 2 <= total <= 1 << MOST_BITS and total & (total - 1) == 0


def sum_if_numbers(value):
    """The sum of a list of numbers, or 0 for what is no such list."""
    if not isinstance(value, list) or not 1 <= len(value) <= MOST_SYMBOLS:
        return 0
    ahead = -1
    total = 0
    # Lists are looked through often, so what `is_within` asks stands here without a call for each number,
    # and the bounds above are looked at once: symbols ascend, and no number is greater than the sum.
    for item in value:
        if not isinstance(item, tuple) or len(item) != 2:
            return 0
        symbol, number = item
        if not isinstance(symbol, int) or symbol is True or symbol is False or symbol <= ahead:
            return 0
        if not isinstance(number, int) or number is True or number < 1:
            return 0
        ahead = symbol
        total += number
    if ahead >= MOST_SYMBOLS:
        return 0
    if total > GREATEST_NUMBER and max([number for _, number in value]) > GREATEST_NUMBER:
        return 0
    return total


def is_counts(value):
    """Whether a value is a list of counts."""
    return is_size(sum_if_numbers(value))


def sum_of(numbers):
    """The sum of numbers, or of counts."""
    return sum([number for _, number in numbers])


def symbols_of(numbers):
    """The symbols of numbers, or of counts."""
    return [symbol for symbol, _ in numbers]


def first_wrong(items, greatest):
    """The index of the first item that is no integer from 0 to the greatest one, -1 if there is none."""
    # Lists are long and mostly right: they are looked through at once, without a call for each item.
    wrong = [item for item in items
             if not isinstance(item, int) or item is True or item is False or not 0 <= item <= greatest]
    if not wrong:
        return -1
    at = 0
    while is_within(items[at], 0, greatest):
        at += 1
    return at


def is_stream(value):
    """Whether a value is a list of bits."""
    return isinstance(value, list) and are_bits(value)


def are_bits(items):
    """Whether all items of a list are bits."""
    # Streams are the longest lists, so little is asked of each item: here all are equal to 0 or 1, but neither
    # True nor False. Of what may be equal to these, only integers have an integer as their sum.
    strange = [item for item in items if (item is False if item == 0 else item is True or item != 1)]
    return not strange and isinstance(sum(items), int)


def is_known_text(value, known):
    """Whether a value is a text of symbols that a dict has as keys; none of its keys is anything else."""
    if not isinstance(value, list) or len(value) > LONGEST_TEXT:
        return False
    strange = [item for item in value
               if not isinstance(item, int) or item is True or item is False or item not in known]
    return not strange


def is_ascending(value, known):
    """Whether a value is a list of integers, each greater than the one ahead of it, that a dict has as keys."""
    if not isinstance(value, list):
        return False
    ahead = -1
    for item in value:
        if not is_integer(item) or item <= ahead or item not in known:
            return False
        ahead = item
    return True


def check_text(text):
    """Raises InvalidText for what is no text; the empty text is one."""
    if not isinstance(text, list):
        raise InvalidText(-1)
    if len(text) > LONGEST_TEXT:
        at = first_wrong(text[:LONGEST_TEXT], MOST_SYMBOLS - 1)
        raise InvalidText(LONGEST_TEXT if at < 0 else at)
    at = first_wrong(text, MOST_SYMBOLS - 1)
    if at >= 0:
        raise InvalidText(at)


def check_symbols(text, known):
    """Raises InvalidSymbol with the first symbol of a text that a dict has not as a key."""
    strange = [symbol for symbol in text if symbol not in known]
    if strange:
        raise InvalidSymbol(strange[0])


def check_known_text(text, known):
    """Raises the errors of a text, and then of symbols that a dict has not as keys."""
    if not is_known_text(text, known):
        check_text(text)
        check_symbols(text, known)


def check_spread(spread):
    """Raises InvalidSpread for what is no spread for a table."""
    if not isinstance(spread, list):
        raise InvalidSpread(-1)
    if not is_size(len(spread)):
        raise InvalidSpread(len(spread))
    at = first_wrong(spread, MOST_SYMBOLS - 1)
    if at >= 0:
        raise InvalidSpread(at)


def check_stream(stream):
    """Raises InvalidStream for what is no list of bits."""
    if not isinstance(stream, list):
        raise InvalidStream(-1)
    if not are_bits(stream):
        raise InvalidStream(first_wrong(stream, 1))


def check_within(value, least, most, name):
    """Raises InvalidBound for what is no integer from `least` to `most`."""
    if not is_within(value, least, most):
        raise InvalidBound(name)


def check_flag(value, name):
    """Raises InvalidBound for what is neither True nor False."""
    if value is not True and value is not False:
        raise InvalidBound(name)


def check_many(many):
    """Raises InvalidBound for what is no number of symbols of a text."""
    if not is_within(many, 0, LONGEST_TEXT):
        raise InvalidBound("many")


def check_numbers(numbers):
    """Raises InvalidBound for what is no list of numbers."""
    if sum_if_numbers(numbers) == 0:
        raise InvalidBound("numbers")


def check_counts(counts):
    """Raises InvalidBound for what is no list of counts."""
    if not is_counts(counts):
        raise InvalidBound("counts")


def check_bits(bits):
    """Raises InvalidBound for what is no number of bits of a state."""
    check_within(bits, 1, MOST_BITS, "bits")
