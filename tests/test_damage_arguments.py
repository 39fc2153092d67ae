"""Points 2 and 4 for damage, entropy, searches and weaving."""

import unittest

from spreadstates import damage, entropy, searches, weaving
from spreadstates.tables import Table
from tests import argument_checks
from tests.samples import SPREAD, bound, limit, spread_error, stream_error, symbol_error, text_error

SMALL = Table(SPREAD)
HALF = Table([0, 0, 0, 0, 1, 1, 1, 1])
GREAT = Table([0, 1, 2, 0] * 1024)
STREAM = [0, 1, 0, 1, 0, 0, 0]
COUNTS = [(0, 5), (1, 2), (2, 1)]
STATE = ("within", 0, 7)
MANY = ("within", 0, 10000)
A_TABLE = ("table", SMALL, "table")
A_TEXT = ("text", [0, 2, 1], "text")
A_STREAM = ("stream", STREAM, "stream")
AN_END = ("last", 0, ("within or none", 0, 7))

CALLS = (
    (damage.changed, (A_STREAM, ("change", ("put", 7, 1), "change")), 0),
    (damage.verdict, (A_TABLE, A_STREAM, ("many", 2, MANY), AN_END), 0),
    (damage.harm, (A_TABLE, A_STREAM, ("change", ("turn", 6), "change"), ("many", 2, MANY), AN_END), 0),
    (damage.meeting, (A_TABLE, A_STREAM, ("one", 0, STATE), ("other", 3, STATE)), 0),
    (damage.meeting_bits, (A_TABLE, ("most", 12, ("within", 0, 12))), 0),
    (damage.turn_counts, (A_TABLE, ("many", 2, ("within", 0, 64))), 0),
    (damage.first_unseen, (A_TABLE, ("many", 1, ("within", 0, 64)), ("is_end_known", False, "flag")), 0),
    (entropy.ideal_order, (A_TEXT, ("bits", 4, ("within", 0, 100000))), 0),
    (entropy.ideal_part, (A_TEXT, ("parts", 10, ("within", 1, 64))), 0),
    (entropy.cost_part, (A_TABLE, A_TEXT, ("parts", 10, ("within", 1, 64))), 0),
    (entropy.gap_part, (A_TABLE, A_TEXT, ("last", 3, STATE), ("parts", 10, ("within", 1, 64))), 0),
    (entropy.mean_bits, (A_TABLE, ("weights", COUNTS, "weights"), ("last", 3, STATE)), 0),
    (entropy.closed_classes, (A_TABLE, ("symbols", [0, 2], "symbols")), 0),
    (entropy.mean_gap,
     (A_TABLE, ("weights", COUNTS, "weights"), ("last", 3, STATE), ("parts", 9, ("within", 1, 16))), 0),
    (entropy.is_even, (A_TABLE,), 0),
    (entropy.least_table,
     (("text", [0, 0, 2, 1], "full text"), ("extra", 1, ("within", 0, 1000)), ("most", 5, ("within", 1, 10))), 0),
    (searches.cost_of, (A_TABLE, A_TEXT), 0),
    (searches.spread_number, (("counts", COUNTS, "counts"),), 0),
    (searches.spread_index, (("spread", SPREAD, "spread"),), 0),
    (searches.spread_at, (("counts", COUNTS, "counts"), ("index", 5, ("within", 0, 167))), 0),
    (searches.best_spread, (("counts", COUNTS, "counts"), A_TEXT), 0),
    (searches.standing, (("spread", SPREAD, "spread"), A_TEXT), 0),
    (searches.costs_by_makers, (("counts", COUNTS, "counts"), A_TEXT), 0),
    (searches.shortest_counts,
     (("text", [0, 0, 2, 1], "full text"), ("bits", 3, ("within", 1, 12)), ("maker", "shares", "maker")), 0),
    (searches.shortest_table,
     (("text", [0, 0, 2, 1], "full text"), ("most", 3, ("within", 1, 10)), ("maker", "bits", "maker")), 0),
    (weaving.write_woven,
     (("tables", [SMALL, HALF], "tables"), ("states", 2, ("within", 1, 8)), ("text", [0, 1, 2], "text"),
      ("lasts", [3, 4], "lasts")), 0),
    (weaving.read_woven,
     (("tables", [SMALL, HALF], "tables"), ("states", 2, ("within", 1, 8)), A_STREAM, ("many", 1, MANY)), 0),
    (weaving.unwoven, (A_TABLE, ("states", 2, ("within", 1, 8)), A_STREAM, ("many", 1, MANY)), 0),
    (weaving.woven,
     (A_TABLE, ("streams", [[0, 1, 0, 1], [1, 1, 1, 0, 0, 0]], "streams"), ("many", 2, MANY)), 0),
    (weaving.write_after,
     (("first", SMALL, "table"), ("tables", [(0, HALF)], "after"), ("text", [2, 0, 1], "text"), ("last", 3, STATE)), 0),
    (weaving.read_after, (("first", SMALL, "table"), ("tables", [(0, HALF)], "after"), A_STREAM, ("many", 1, MANY)), 0),
    (weaving.tables_after, (("text", [2, 0, 1], "full text"), ("bits", 2, ("within", 1, 12))), 0),
)

SIGNATURES = {
    damage.changed: "(stream, change)", damage.verdict: "(table, stream, many, last=None)",
    damage.harm: "(table, stream, change, many, last=None)", damage.meeting: "(table, stream, one, other)",
    damage.meeting_bits: "(table, most)", damage.turn_counts: "(table, many)",
    damage.first_unseen: "(table, many, is_end_known)", entropy.ideal_order: "(text, bits)",
    entropy.ideal_part: "(text, parts)", entropy.cost_part: "(table, text, parts)",
    entropy.gap_part: "(table, text, last, parts)", entropy.mean_bits: "(table, weights, last)",
    entropy.closed_classes: "(table, symbols)", entropy.mean_gap: "(table, weights, last, parts)",
    entropy.is_even: "(table)", entropy.least_table: "(text, extra, most)", searches.cost_of: "(table, text)",
    searches.spread_number: "(counts)", searches.spread_index: "(spread)", searches.spread_at: "(counts, index)",
    searches.best_spread: "(counts, text)", searches.standing: "(spread, text)",
    searches.costs_by_makers: "(counts, text)", searches.shortest_counts: "(text, bits, maker)",
    searches.shortest_table: "(text, most, maker)", weaving.write_woven: "(tables, states, text, lasts=None)",
    weaving.read_woven: "(tables, states, stream, many)", weaving.unwoven: "(table, states, stream, many)",
    weaving.woven: "(table, streams, many)", weaving.write_after: "(first, tables, text, last=0)",
    weaving.read_after: "(first, tables, stream, many)", weaving.tables_after: "(text, bits)",
}

# Calls that raise an error, with what is told of it: of the arguments, of limits, of what is found on the way.
FAILURES = (
    (damage.changed, ([0, 1], ("put", 3, 0)), bound("change")), (damage.verdict, (SMALL, [0, 2], 1), stream_error(1)),
    (damage.harm, (SMALL, STREAM, ("drop", 6), 1), stream_error(4)),
    (damage.harm, (SMALL, STREAM, ("drop", 6), 3, 7), stream_error(7)),
    (damage.meeting, (SMALL, STREAM, 0, 8), bound("other")), (damage.meeting_bits, (GREAT, 12), limit(16)),
    (damage.turn_counts, (GREAT, 0), limit(2000)), (damage.first_unseen, (GREAT, 64, True), limit(2000)),
    (entropy.ideal_order, ([0] * 2001, 0), limit(2000)), (entropy.ideal_part, ([0] * 2001, 1), limit(2000)),
    (entropy.cost_part, (SMALL, [0] * 2001, 1), limit(2000)), (entropy.cost_part, (SMALL, [0, 3], 0), symbol_error(3)),
    (entropy.gap_part, (SMALL, [0] * 2001, 0, 1), limit(2000)), (entropy.mean_bits, (GREAT, COUNTS, 0), limit(32)),
    (entropy.closed_classes, (GREAT, [0, 2]), limit(32)), (entropy.mean_gap, (GREAT, COUNTS, 0, 1), limit(32)),
    (entropy.mean_gap, (SMALL, [(0, 201)], 0, 1), limit(200)), (entropy.least_table, ([0] * 2001, 0, 1), limit(2000)),
    (searches.cost_of, (GREAT, [0] * 49), limit(200000)), (searches.spread_number, ([(0, 512)],), limit(256)),
    (searches.spread_index, ([5] * 512,), limit(256)), (searches.spread_at, ([(0, 512)], 0), limit(256)),
    (searches.spread_at, (COUNTS, 168), bound("index")), (searches.best_spread, ([(0, 32)], []), limit(16)),
    (searches.best_spread, (COUNTS, [0, 1, 7]), symbol_error(7)), (searches.standing, (SPREAD, [0] * 41), limit(40)),
    (searches.standing, (list(range(16)), [0]), limit(3000)), (searches.standing, (SPREAD[:7], []), spread_error(7)),
    (searches.costs_by_makers, ([(0, 4096)], [0] * 49), limit(200000)),
    (searches.shortest_counts, ([0] * 41, 1, "bits"), limit(40)), (searches.shortest_counts, ([0], 6, "bits"), limit(5)),
    (searches.shortest_counts, ([0, 1, 2, 3], 5, "bits"), limit(500)),
    (searches.shortest_table, ([0] * 201, 1, "bits"), limit(200)),
    (searches.shortest_table, ([0, 1, 2], 1, "bits"), limit(2)),
    (weaving.write_woven, ([SMALL, HALF], 2, [0, 2]), symbol_error(2)),
    (weaving.write_woven, ([SMALL], 2, [0, 2], [0]), bound("lasts")), (weaving.read_woven, ([SMALL], 3, STREAM, 0), stream_error(7)),
    (weaving.unwoven, (SMALL, 2, STREAM, 9), stream_error(7)), (weaving.woven, (SMALL, [STREAM, STREAM], 3), stream_error(1)),
    (weaving.write_after, (SMALL, [(0, HALF)], [0, 2]), symbol_error(2)),
    (weaving.read_after, (SMALL, [(0, HALF)], STREAM, 5), stream_error(7)),
    (weaving.tables_after, ([0, 1, 2], 1), limit(2)), (weaving.tables_after, ([], 1), text_error(0)),
)


class Arguments(argument_checks.Checks, unittest.TestCase):
    calls = CALLS
    signatures = SIGNATURES
    failures = FAILURES

    def test_tables_of_results_are_new(self):
        first, tables = weaving.tables_after([0, 1, 0, 2], 2)
        other, others = weaving.tables_after([0, 1, 0, 2], 2)
        self.assertIsNot(first, other)
        self.assertEqual((first, tables), (other, others))


if __name__ == "__main__":
    unittest.main()
