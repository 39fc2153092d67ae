"""What several tests share: wrong values, sample counts, and looking at errors."""

import random

from spreadstates import errors
from spreadstates.desks import Desk
from spreadstates.tables import Table

SMALL = [(0, 5), (1, 2), (2, 1)]
SPREAD = [0, 0, 0, 0, 0, 1, 1, 2]
FIELDS = {
    "InvalidText": "at", "InvalidSpread": "at", "InvalidSymbol": "symbol", "InvalidStream": "at",
    "InvalidHeader": "at", "InvalidBound": "argument", "InvalidCall": "call", "LimitExceeded": "limit",
}


def nested(wrap):
    """A value that is nested 2000 deep."""
    value = 0
    for _ in range(2000):
        value = wrap(value)
    return value


def endless():
    """A list that contains itself."""
    value = []
    value.append(value)
    return value


def kinds_of_values():
    """Values of all built-in kinds but floats, by names; no list and no integer is among them."""
    found = {
        "True": True, "False": False, "None": None,
        "empty string": "", "string": "text", "digit": "3", "empty bytes": b"", "bytes": b"\x01\x02",
        "bytearray": bytearray(b"\x01"), "memoryview": memoryview(b"\x01"), "complex": complex(1, 0),
        "tuple": (1,), "pair": (0, 2), "tuple of pairs": ((0, 5), (1, 3)), "tuple of a list": ([],),
        "empty dict": {}, "dict": {0: 2}, "dict of pairs": {(0, 2): 1}, "set": {1}, "empty set": set(),
        "frozenset": frozenset((1,)), "range": range(4), "slice": slice(1, 2), "Ellipsis": Ellipsis,
        "NotImplemented": NotImplemented, "object": object(), "int": int, "list": list, "len": len,
        "function": nested, "iterator": iter([1]), "generator": (item for item in [1]), "zip": zip([1], [2]),
        "module": errors, "class": errors.InvalidText, "base error": errors.SpreadError(),
        "error of Python": ValueError("text"), "a table": Table([0, 1]), "class of tables": Table,
        "a desk": Desk(2), "class of desks": Desk,
        "deep tuple": nested(lambda value: (value,)), "deep dict": nested(lambda value: {0: value}),
        "deep list in a tuple": (nested(lambda value: [value]),),
    }
    for name in FIELDS:
        found["an " + name] = getattr(errors, name)(1)
    return found


def wrong_items():
    """Values that are neither an integer nor a tuple of two integers, by names."""
    found = kinds_of_values()
    del found["pair"]
    found.update({
        "list": [1], "empty list": [], "list of two": [0, 2], "deep list": nested(lambda value: [value]),
        "endless": endless(), "empty tuple": (),
    })
    return found


def wrong_lists():
    """Values that are no list, or a list with a wrong item or without any, by names."""
    found = kinds_of_values()
    found.update({
        "integer": 3, "zero": 0, "minus one": -1, "great integer": 10 ** 40, "empty list": [], "empty tuple": (),
        "deep list": nested(lambda value: [value]), "endless": endless(),
    })
    for name, item in wrong_items().items():
        found["list of " + name] = [item]
    return found


def wrong_integers(least, greatest):
    """Values that are no integer from the least to the greatest one, by names."""
    found = wrong_items()
    found.update({"pair": (0, 2), "too small": least - 1, "too great": greatest + 1})
    found.update({"far too small": -10 ** 40, "far too great": 10 ** 40})
    return found


def wrong_numbers():
    """Values that are no list of numbers, by names."""
    found = wrong_lists()
    found.update({
        "no order": [(1, 2), (0, 2)], "symbol twice": [(0, 2), (0, 2)], "late symbol twice": [(0, 1), (3, 1), (3, 2)],
        "number 0": [(0, 4), (1, 0)], "number below 0": [(0, 4), (1, -4)], "great number": [(0, 10 ** 30 + 1)],
        "symbol below 0": [(-1, 2)], "great symbol": [(0, 1), (1000, 1)], "symbol True": [(True, 2)],
        "symbol False": [(False, 2)], "number True": [(0, 1), (1, True)], "lists": [[0, 1], [1, 1]],
        "short tuple": [(2,)], "long tuple": [(0, 1, 1)], "mere symbols": [0, 1], "string of two": ["ab"],
        "bytes of two": [b"\x01\x02"], "late wrong item": [(0, 1), (1, 1), None], "tuples": ((0, 1), (1, 1)),
        "too many": [(symbol, 1) for symbol in range(1001)], "far too many": [(0, 1)] * 100000,
    })
    for name, item in wrong_items().items():
        found["symbol " + name] = [(item, 2)]
        found["number " + name] = [(0, item)]
        found["late symbol " + name] = [(0, 1), (item, 1)]
    return found


def wrong_counts():
    """Values that are no list of counts, by names."""
    found = wrong_numbers()
    for total in (1, 3, 5, 6, 7, 12, 15, 17, 4095, 4097, 4098, 8192, 2 ** 20, 10 ** 30):
        found["one count " + str(total)] = [(5, total)]
    found["two counts"] = [(0, 2), (1, 1)]
    found["counts up to 8192"] = [(0, 4096), (1, 4096)]
    found["counts up to 10"] = [(0, 8), (1, 2)]
    return found


def raised(action, *values, **named):
    """The error that a call raises, None if there is none; other errors than the package's go on."""
    try:
        action(*values, **named)
    except errors.SpreadError as error:
        return error
    return None


def told(action, *values, **named):
    """The name of the class of the error that a call raises, with its fields, or None."""
    error = raised(action, *values, **named)
    return None if error is None else (type(error).__name__, vars(error))


def bound(argument):
    """What `told` returns for InvalidBound."""
    return ("InvalidBound", {"argument": argument})


def limit(number):
    """What `told` returns for LimitExceeded."""
    return ("LimitExceeded", {"limit": number})


def text_error(at):
    """What `told` returns for InvalidText."""
    return ("InvalidText", {"at": at})


def symbol_error(symbol):
    """What `told` returns for InvalidSymbol."""
    return ("InvalidSymbol", {"symbol": symbol})


def stream_error(at):
    """What `told` returns for InvalidStream."""
    return ("InvalidStream", {"at": at})


def header_error(at):
    """What `told` returns for InvalidHeader."""
    return ("InvalidHeader", {"at": at})


def spread_error(at):
    """What `told` returns for InvalidSpread."""
    return ("InvalidSpread", {"at": at})


def no_tables():
    """Values that are no table, by names."""
    found = wrong_lists()
    found.update({"small spread": SPREAD, "rows": Table(SPREAD).rows()})
    del found["a table"]
    return found


def wrong_texts():
    """Values that are no text, by names, with the number that InvalidText tells."""
    found = {name: (value, -1) for name, value in wrong_lists().items() if not isinstance(value, list)}
    for name, item in wrong_items().items():
        found["text of " + name] = ([item], 0)
        found["late " + name] = ([0, 1, item, item], 2)
        found["behind a longer text " + name] = ([0] * 10000 + [item], 10000)
    found.update({
        "symbol below 0": ([0, -1, 2], 1), "great symbol": ([1000], 0), "pair": ([0, (0, 2)], 1),
        "far symbol": ([0, 1, 10 ** 40], 2), "longer text": ([0] * 10001, 10000), "wrong at the end": ([0] * 9999 + [-1], 9999),
    })
    return found


def wrong_streams():
    """Values that are no list of bits, by names, with the number that InvalidStream tells."""
    found = {name: (value, -1) for name, value in wrong_lists().items() if not isinstance(value, list)}
    for name, item in wrong_items().items():
        found["stream of " + name] = ([item], 0)
        found["late " + name] = ([0, 1, 0, 1, 1, 1, 1, item, 2], 7)
    found.update({
        "below 0": ([0, -1, 1], 1), "two": ([0, 1, 2], 2), "pair": ([(0, 1)], 0), "far": ([0] * 3 + [10 ** 40], 3),
        "after many": ([1] * 100000 + [True], 100000),
    })
    return found


def drawn_counts(seed, bits, many):
    """Counts with the sum 2 ** bits for so many symbols, the same for the same seed."""
    draw = random.Random(seed)
    symbols = sorted(draw.sample(range(1000), many))
    cuts = sorted(draw.sample(range(1, 2 ** bits), many - 1))
    bounds = [0] + cuts + [2 ** bits]
    return [(symbol, bounds[at + 1] - bounds[at]) for at, symbol in enumerate(symbols)]


def sample_counts():
    """Counts for 1 to 12 bits: of one symbol, of all that there can be, and of some between."""
    found = []
    for bits in range(1, 13):
        most = min(1000, 2 ** bits)
        for many in sorted({1, 2, min(3, most), min(17, most), most // 2, most - 1, most}):
            if many > 0:
                found.append(drawn_counts(1000 * bits + many, bits, many))
    # Here unlike shares are nearly alike, and the only rare symbols stand first, amid and last.
    found.append([(3, 2047), (4, 2049)])
    found.append([(0, 1365), (1, 1366), (999, 1365)])
    found.append([(0, 1), (7, 3), (8, 1), (9, 10), (999, 1)])
    found.append([(symbol, 1) for symbol in range(0, 1000, 2)] + [(999, 12)])
    return found
