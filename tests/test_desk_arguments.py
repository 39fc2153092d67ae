"""Points 2 and 4 for headers, adaptive tables, tables that do alike, and the replaying of desks."""

import unittest

from spreadstates import adaptive, alike, headers
from spreadstates.tables import Table
from tests import argument_checks
from tests.samples import SPREAD, bound, header_error, limit, stream_error, symbol_error, text_error
from tests.samples import wrong_integers, wrong_streams

SMALL = Table(SPREAD)
OTHER = Table([0, 0, 0, 0, 0, 2, 1, 1])
LONE = Table([0, 0, 0, 9])
GREAT = Table([0, 1, 2, 0] * 64)
STREAM = [0, 1, 0, 1, 0, 0, 0]
COUNTS = [(0, 5), (1, 2), (2, 1)]
HEADER = [0, 0, 1, 1, 1, 0, 1, 1, 0, 1]
STATE = ("within", 0, 7)
MANY = ("within", 0, 10000)
A_TABLE = ("table", SMALL, "table")
AN_OTHER = ("other", OTHER, "table")
A_SIZE = ("size", 2, ("within", 2, 256))
A_BLOCK = ("block", 1, ("within", 1, 10000))
BITS = ("bits", 2, ("within", 1, 12))
A_WINDOW = ("window", 3, ("within or none", 0, 10000))
IS_NEW = ("is_new", True, "flag")

CALLS = (
    (headers.header_of, (("counts", COUNTS, "counts"),), 0),
    (headers.read_header, (("stream", [1] + HEADER, "header"), ("at", 1, ("within", 0, 11))), 0),
    (headers.pack, (("text", [0, 0, 1], "full text"), ("bits", 3, ("within", 1, 12)), ("last", 2, STATE)), 0),
    (headers.unpack, (("stream", HEADER + STREAM, "header"), ("many", 2, MANY)), 0),
    (headers.shortest_pack, (("text", [0, 0, 1], "full text"), ("most", 3, ("within", 1, 12))), 0),
    (headers.write_escaped,
     (("table", LONE, "table"), ("text", [0, 5], "text"), ("escape", 9, "escape"), ("width", 3, ("within", 1, 10)),
      ("last", 3, ("within", 0, 3))), 0),
    (headers.read_escaped,
     (("table", LONE, "table"), ("stream", [0, 0, 1, 1, 0, 1, 0, 0], "stream"), ("many", 2, MANY),
      ("escape", 9, "escape"), ("width", 3, ("within", 1, 10))), 0),
    (adaptive.adaptive_counts, (("text", [0, 1], "text"), A_SIZE, A_BLOCK, BITS, A_WINDOW), 0),
    (adaptive.write_adaptive,
     (("text", [0, 1], "text"), A_SIZE, A_BLOCK, BITS, A_WINDOW, IS_NEW, ("last", 2, ("within", 0, 3))), 3),
    (adaptive.read_adaptive,
     (("stream", [0, 1, 1, 0, 0, 0], "stream"), ("many", 2, MANY), A_SIZE, A_BLOCK, BITS, A_WINDOW, IS_NEW), 2),
    (adaptive.adaptive_chance, (("text", [0, 1], "text"), A_SIZE), 0),
    (adaptive.best_block, (("text", [0, 1], "text"), A_SIZE, BITS, ("most", 3, ("within", 1, 64))), 0),
    (alike.alike_classes, (A_TABLE,), 0),
    (alike.first_apart, (A_TABLE, ("last", 3, STATE), AN_OTHER, ("other_last", 7, STATE)), 0),
    (alike.partner, (A_TABLE, ("last", 3, STATE), AN_OTHER), 0),
    (alike.are_alike, (A_TABLE, AN_OTHER), 0),
    (alike.renamed, (A_TABLE, ("names", [5, 3, 999], "names")), 0),
    (alike.renaming, (A_TABLE, AN_OTHER), 0),
    (alike.written_apart, (A_TABLE, ("last", 3, STATE), ("other_last", 7, STATE)), 0),
)

SIGNATURES = {
    headers.header_of: "(counts)", headers.read_header: "(stream, at=0)", headers.pack: "(text, bits, last=0)",
    headers.unpack: "(stream, many)", headers.shortest_pack: "(text, most)",
    headers.write_escaped: "(table, text, escape, width, last=0)",
    headers.read_escaped: "(table, stream, many, escape, width)",
    adaptive.adaptive_counts: "(text, size, block, bits, window=None)",
    adaptive.write_adaptive: "(text, size, block, bits, *, window=None, is_new=False, last=0)",
    adaptive.read_adaptive: "(stream, many, size, block, bits, *, window=None, is_new=False)",
    adaptive.adaptive_chance: "(text, size)", adaptive.best_block: "(text, size, bits, most)",
    alike.alike_classes: "(table)", alike.first_apart: "(table, last, other, other_last)",
    alike.partner: "(table, last, other)", alike.are_alike: "(table, other)", alike.renamed: "(table, names)",
    alike.renaming: "(table, other)", alike.written_apart: "(table, last, other_last)",
}

# Calls that raise an error, with what is told of it: of the arguments, of limits, of what is found on the way.
FAILURES = (
    (headers.header_of, ([(0, 3)],), bound("counts")), (headers.read_header, ([0, 0, 0, 0, 0], 1), header_error(1)),
    (headers.read_header, (HEADER[:8],), header_error(8)), (headers.read_header, (HEADER, 11), bound("at")),
    (headers.pack, ([0, 1, 2], 1, 1), limit(2)), (headers.pack, ([], 1), text_error(0)),
    (headers.pack, ([0], 1, 2), bound("last")), (headers.unpack, (HEADER + STREAM, 3), stream_error(17)),
    (headers.unpack, (HEADER + STREAM, 1), stream_error(14)), (headers.unpack, (HEADER[:5], 1), header_error(5)),
    (headers.shortest_pack, ([0, 1, 2], 1), limit(2)), (headers.write_escaped, (LONE, [0, 8], 9, 3), symbol_error(8)),
    (headers.write_escaped, (LONE, [0, 8], 8, 3), bound("escape")),
    (headers.read_escaped, (LONE, [1, 1, 0, 0, 0], 1, 9, 3), stream_error(2)),
    (headers.read_escaped, (LONE, [0, 0, 1, 1], 1, 9, 3), stream_error(3)),
    (adaptive.adaptive_counts, ([0, 2], 2, 1, 2), symbol_error(2)), (adaptive.adaptive_counts, ([0], 3, 1, 1), limit(2)),
    (adaptive.adaptive_counts, ([0] * 97, 2, 2, 12), limit(200000)), (adaptive.write_adaptive, ([0], 3, 1, 1), limit(2)),
    (adaptive.read_adaptive, ([0, 1, 1, 0, 0, 0], 2, 2, 1, 2), stream_error(5)),
    (adaptive.read_adaptive, ([0, 1, 1], 2, 2, 1, 2), stream_error(3)), (adaptive.adaptive_chance, ([0] * 201, 2), limit(200)),
    (adaptive.best_block, ([0] * 201, 2, 12, 1), limit(200)), (adaptive.best_block, ([0], 2, 7, 1), limit(6)),
    (adaptive.best_block, ([0], 3, 1, 1), limit(2)), (alike.alike_classes, (GREAT,), limit(64)),
    (alike.first_apart, (SMALL, 0, LONE, -1), bound("other")), (alike.first_apart, (SMALL, 0, GREAT, 0), limit(64)),
    (alike.partner, (GREAT, 0, SMALL), limit(64)), (alike.are_alike, (SMALL, GREAT), limit(64)),
    (alike.renamed, (SMALL, [1, 2, 1]), bound("names")), (alike.renaming, (SMALL, SPREAD), bound("other")),
    (alike.written_apart, (GREAT, 0, 1), limit(64)), (alike.written_apart, (SMALL, 0, 8), bound("other_last")),
)


def wrong_headers(name):
    return [(key, value, header_error(at)) for key, (value, at) in wrong_streams().items()]


def wrong_escapes(name):
    wrong = wrong_integers(0, 999)
    wrong.update({"strange": 1, "ten": 10})
    return [(key, value, bound(name)) for key, value in wrong.items()]


def wrong_names(name):
    found = argument_checks.wrong_symbols(name)
    more = {"twice": [1, 1, 2], "too few": [1, 2], "too many": [1, 2, 3, 4], "great": [0, 1, 1000], "tuple of names": (1, 2, 3)}
    return found + [(key, value, bound(name)) for key, value in more.items()]


class Arguments(argument_checks.Checks, unittest.TestCase):
    calls = CALLS
    signatures = SIGNATURES
    failures = FAILURES

    def setUp(self):
        argument_checks.KINDS.update({"header": wrong_headers, "escape": wrong_escapes, "names": wrong_names})


if __name__ == "__main__":
    unittest.main()
