"""[4] for the functions of tight steps, owed rows, prices, corners, verdicts, woven, changed, joined and live books."""

import unittest

from every_call import EveryCall, written
from samples import NEST, ORDER, course, do, one_course
from stillowed.books import Book
from stillowed.changes import (Change, bar_out, barred, brings, change_to, effect, greatest, lost, may_end, may_put_in,
                               needed, new_numbers, old_run, put_in, spare, with_ends, with_steps)
from stillowed.corners import Corner, Mixed, check_corner, corner, corners
from stillowed.dealings import own_desks
from stillowed.joined import behind, behind_table, either, either_table, filled, filled_table
from stillowed.lengths import plain
from stillowed.live import Live
from stillowed.owed import TwoEndings, court, tight, tight_run
from stillowed.owing import all_rows, count_rows, owe_together, owes, rows_owed
from stillowed.prices import check_prices, counts_along, least_prices, price_steps, price_ways
from stillowed.texts import book_of, read_courses
from stillowed.verdicts import DealtTable, DeskSplit, NeverTogether
from stillowed.woven import Clash, Woven, check_weave, owing_desks, weave

VIEW = {"take": ("t", "k"), "card": (), "stamp": ("s",), "send": ("z",), "more": ("q",)}
TABLE = court(ORDER, plain(ORDER))
NESTED = court(NEST, plain(NEST))
PRICES = {"take": 2, "card": 0, "stamp": 7, "send": 1, "more": 3}
COUNTS = ((0, 4), (3, 3), (4, 0))
SHOP = Book((course("shop", 3, (2,), do(0, "wrap", 1), do(1, "ship", 2)),))
SHOWN = court(SHOP, {"wrap": ("card",), "ship": (), "zz": ()})
DEALT = DealtTable(ORDER, own_desks(ORDER), TABLE.rows, TABLE.ways, TABLE.ranks)
OTHER = court(book_of(read_courses("w: [x] y")), {"x": ("x",), "y": ("y",)})
SECOND = DealtTable(OTHER.book, (("x", "send"), ("y", "desk")), OTHER.rows, OTHER.ways, OTHER.ranks)
CLASHING = DealtTable(OTHER.book, (("x", "send"), ("y", "send")), OTHER.rows, OTHER.ways, OTHER.ranks)
LINE = court(one_course(3, (2,), do(0, "a", 1), do(1, "b", 2)), {"a": ("a",), "b": ("b",)})
TWO = TwoEndings(("a", 0), ((),), {}, {}, (), ())

CALLS = [
    (tight, {"book": ORDER, "table": TABLE}), (tight_run, {"book": ORDER, "table": TABLE, "moment": (("pay", 0), ("order", 2))}),
    (owes, {"table": NESTED, "row": ("c", "b", "b")}), (rows_owed, {"table": NESTED, "size": 4}),
    (count_rows, {"table": NESTED, "size": 4}), (all_rows, {"table": TABLE}),
    (owe_together, {"tables": (NESTED, NESTED), "numbers": (3, 4)}),
    (least_prices, {"book": ORDER, "prices": PRICES}), (price_ways, {"book": ORDER, "prices": PRICES}),
    (counts_along, {"book": ORDER, "chosen": price_ways(ORDER, PRICES)}),
    (check_prices, {"book": ORDER, "prices": PRICES, "table": least_prices(ORDER, PRICES), "chosen": price_ways(ORDER, PRICES)}),
    (price_steps, {"counts": COUNTS, "prices": (1, 2), "place": 1}),
    (corner, {"counts": COUNTS, "at": 1}), (corners, {"counts": COUNTS}),
    (check_corner, {"counts": COUNTS, "at": 0, "value": Corner((1, 1))}), (Corner, {"prices": (1, 2)}), (Mixed, {"shares": (1, 0)}),
    (DealtTable, {"book": ORDER, "dealing": own_desks(ORDER), "rows": {("a", 0): ()}, "ways": {("a", 0): ("end",)},
                  "ranks": {("a", 0): 0}}),
    (DeskSplit, {"desk": "d", "two": TWO}),
    (NeverTogether, {"stage": ("a", 0), "trail": ((),), "tables": (), "desk": "d", "one": (), "other": ("a",)}),
    (owing_desks, {"table": DEALT}), (weave, {"one": DEALT, "other": SECOND}), (weave, {"one": DEALT, "other": CLASHING}),
    (check_weave, {"one": DEALT, "other": SECOND, "value": weave(DEALT, SECOND)}),
    (check_weave, {"one": DEALT, "other": CLASHING, "value": weave(DEALT, CLASHING)}),
    (Woven, {"one": DEALT, "other": SECOND, "owing": {"a": 0}}),
    (Clash, {"desk": "a", "first": ("a", 0), "second": ("b", 0), "one": (), "other": ()}),
    (barred, {"book": NEST, "bars": (("main", 0),)}), (new_numbers, {"book": NEST, "bars": (("main", 0),)}),
    (old_run, {"book": NEST, "bars": (("main", 0),), "run": (("do", 0), ("leave",))}),
    (with_steps, {"book": NEST, "steps": (("main", do(0, "b", 3)),)}), (with_ends, {"book": NEST, "stages": (("main", 0),)}),
    (lost, {"table": TABLE, "bars": (("pay", 0),)}), (needed, {"table": TABLE}), (spare, {"table": TABLE}),
    (brings, {"table": TABLE, "course": "pay", "step": do(0, "card", 2)}),
    (effect, {"table": TABLE, "course": "pay", "step": do(0, "card", 3)}), (may_put_in, {"table": LINE}),
    (may_end, {"table": LINE}), (greatest, {"table": LINE}), (change_to, {"table": TABLE, "book": ORDER}),
    (change_to, {"table": SHOWN, "book": SHOP}), (bar_out, {"table": TABLE, "bars": (("pay", 0),)}),
    (put_in, {"table": TABLE, "course": "pay", "step": do(0, "card", 3)}),
    (Change, {"book": NEST, "word": "dead", "table": None, "two": None, "changed": (), "fresh": (), "gone": ()}),
    (behind, {"one": ORDER, "other": SHOP, "name": "m"}), (either, {"one": ORDER, "other": SHOP, "name": "m"}),
    (behind_table, {"one": TABLE, "other": SHOWN, "name": "m"}), (either_table, {"one": TABLE, "other": SHOWN, "name": "m"}),
    (filled, {"one": ORDER, "deed": "card", "other": SHOP}), (filled_table, {"one": TABLE, "deed": "card", "other": SHOWN}),
    (Live, {"book": ORDER}),
]


class EveryFunctionTest(EveryCall, unittest.TestCase):
    calls = CALLS
    kinds = (Corner, Mixed, DealtTable, DeskSplit, NeverTogether, Woven, Clash, Change)

    def test_answers_keep_no_dicts_of_arguments(self):
        table = court(ORDER, plain(ORDER))
        change = change_to(table, ORDER)
        joined = behind_table(table, SHOWN, "m")
        before = written(change), written(joined)
        for told in (table.rows, table.ways, table.ranks, table.view):
            told.clear()
        self.assertEqual((written(change), written(joined)), before)

    def test_answers_of_live_books(self):
        live = Live(ORDER)
        live.do(("do", 0))
        before = written(live.verdict())
        verdict = live.verdict()
        verdict.rows.clear()
        self.assertEqual(written(live.verdict()), before)
        self.assertEqual(live.owed(), ("card", "send"))


if __name__ == "__main__":
    unittest.main()
