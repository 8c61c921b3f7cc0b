"""[4] for the functions of depths, givings, held rows, loads, lookers, makers, makings, made books and orders."""

import unittest

from every_call import EveryCall
from samples import NEST, ORDER
from stillowed.depths import Slope, check_slope, debts_at, deepest, least_depth, slope
from stillowed.givings import check_giving, giving_of
from stillowed.held import check_stops, fewest, held, held_of, holds_in_all, lacking, lacking_all, shares, stops
from stillowed.lengths import plain
from stillowed.lists import lists
from stillowed.loads import check_loads, hidden, left_free, load_at, loaded, loading_steps, loads, peak
from stillowed.lookers import Known, Tracked, Unknown, Untracked, check_knowing, known, row_by_changes, tracking
from stillowed.made import made_book, part_view, put_books
from stillowed.makers import bearing, check_lists, enough_depth, list_run, makers
from stillowed.makings import check_couple, couple, is_exact, made_row, needs, own_deeds, unmade
from stillowed.moments import all_moments
from stillowed.orders import check_no, next_deeds, rests, run_by, spans, wrong_at
from stillowed.owed import court
from stillowed.piles import piles_of
from stillowed.texts import book_of, read_courses

VIEW = {"take": ("t", "k"), "card": (), "stamp": ("s",), "send": ("z",), "more": ("q",)}
TABLE = court(ORDER, plain(ORDER))
NESTED = court(NEST, plain(NEST))
PAIR = (("pay", 0), ("order", 2))
START = (("order", 0),)
GIVING = giving_of(TABLE, all_moments(ORDER, 20))
LISTS = lists(ORDER, VIEW)
MADE = makers(ORDER, VIEW, LISTS)
QUIET = court(book_of(read_courses("main: (x) a\nx: [h b]")), {"a": ("a",), "b": ("b",), "h": ()})
ROWS = (("a", "b"), ("b", "a"))
PILES = piles_of(ORDER, ("take",), ("take",))
MAKING = {"b": ("y",), "a": ("x", "y")}
EXACT = {"b": ("y",), "a": ("x",)}
PARTS = (("send", book_of(read_courses("p: x"))),)
ROW = ("take", "card")

CALLS = [
    (debts_at, {"table": NESTED, "depth": 5}), (deepest, {"table": TABLE}), (least_depth, {"table": NESTED, "wanted": 9}),
    (slope, {"table": NESTED}), (Slope, {"table": NESTED, "gain": 1, "span": 1, "heights": {"main": 2},
                                         "lap": (("main", 2),), "base": ()}),
    (check_slope, {"table": NESTED, "gain": 1, "span": 1, "heights": {"main": 2}, "lap": (("main", 2),), "base": ()}),
    (check_giving, {"book": ORDER, "view": plain(ORDER), "giving": GIVING}),
    (giving_of, {"table": TABLE, "moments": (START, PAIR)}),
    (held, {"rows": ROWS}), (held_of, {"table": LISTS, "moment": PAIR}),
    (shares, {"table": LISTS, "moment": PAIR, "row": ("z",)}), (holds_in_all, {"table": LISTS, "moment": PAIR, "row": ("z",)}),
    (lacking, {"table": LISTS, "moment": PAIR, "row": ("s",)}),
    (lacking_all, {"table": LISTS, "moment": PAIR, "rows": [("s",), ("t",)]}),
    (fewest, {"table": LISTS, "moment": PAIR, "deed": "z"}), (stops, {"rows": ROWS, "row": ("a",)}),
    (check_stops, {"rows": ROWS, "row": ("a",), "paper": stops(ROWS, ("a",))}),
    (hidden, {"table": QUIET}), (loading_steps, {"table": QUIET}), (left_free, {"table": QUIET, "movers": ("h",)}),
    (loads, {"table": QUIET, "movers": ("h",)}),
    (check_loads, {"table": QUIET, "movers": ("h",), "heights": loads(QUIET, ("h",))}),
    (peak, {"table": QUIET, "movers": ("h",), "stage": ("main", 0), "wanted": 2}),
    (load_at, {"table": QUIET, "movers": ("h",), "moment": (("main", 0),)}),
    (loaded, {"table": QUIET, "movers": ("h",), "moment": (("main", 0),), "gain": 1}),
    (known, {"table": TABLE, "piles": PILES}),
    (check_knowing, {"table": TABLE, "piles": PILES, "value": Known((), {("order", 0): 0})}),
    (tracking, {"table": NESTED, "seen": ("a", "b", "c")}), (tracking, {"table": NESTED, "seen": ()}),
    (row_by_changes, {"tracked": Tracked(("a",), {"a": (("a",), ("b",))}), "shown": ("a",)}),
    (Known, {"owes": ("a",), "places": {("m", 0): 1}}), (Unknown, {"one": (), "other": (("m", 0),)}),
    (Tracked, {"basis": ("a",), "effects": {"a": (("a",), ())}}), (Untracked, {"one": ("m", 0), "other": None}),
    (made_book, {"book": ORDER, "making": VIEW}), (put_books, {"book": ORDER, "parts": PARTS}),
    (part_view, {"book": ORDER, "parts": PARTS}),
    (makers, {"book": ORDER, "view": VIEW, "table": LISTS}), (enough_depth, {"book": ORDER, "view": VIEW, "table": LISTS}),
    (bearing, {"book": ORDER, "view": VIEW, "table": LISTS}),
    (list_run, {"book": ORDER, "made": MADE, "stage": ("order", 1), "place": 0}),
    (check_lists, {"book": ORDER, "view": VIEW, "table": LISTS, "made": MADE}),
    (made_row, {"making": MAKING, "row": ("a", "b")}), (own_deeds, {"making": MAKING}), (is_exact, {"making": MAKING}),
    (couple, {"making": MAKING}), (check_couple, {"making": MAKING, "u": ("b",), "v": ("a",)}),
    (needs, {"making": MAKING, "row": ("y", "y")}), (unmade, {"making": EXACT, "row": ("y", "x")}),
    (wrong_at, {"book": ORDER, "moment": START, "row": ROW}), (next_deeds, {"book": ORDER, "moment": START, "row": ROW}),
    (run_by, {"book": ORDER, "moment": START, "row": ROW + ("send",)}), (spans, {"book": ORDER, "row": ROW}),
    (check_no, {"book": ORDER, "moment": START, "row": ROW, "triples": spans(ORDER, ROW)}),
    (rests, {"table": TABLE, "moment": START, "row": ROW}),
]


class EveryFunctionTest(EveryCall, unittest.TestCase):
    calls = CALLS
    kinds = (Slope, Known, Unknown, Tracked, Untracked)


if __name__ == "__main__":
    unittest.main()
