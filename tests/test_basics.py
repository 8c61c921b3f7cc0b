"""[3], [4]: what holds of every function: arguments stay, answers are new, equal ones for equal arguments."""

import copy
import unittest

import brute
from every_call import EveryCall, written
from samples import NEST, ORDER, TORN
from stillowed.books import Book
from stillowed.bounds import length_bound, tallest
from stillowed.counts import check_counts, conflict, deed_counts, floors, goes_together, least_counts
from stillowed.dealings import (blocks_of, check_dealing, common_finer, dealing_of, deeds_at, desk_of, desks_of,
                                is_finer, one_desk, own_desks, part, parts, same_by, view_at, within_by)
from stillowed.debts import Heights, Ring, check_heights, check_ring, debt, greatest_debt, sites, soonest
from stillowed.endings import endings, has_ending, nth_ending
from stillowed.expressions import normal, rows_of
from stillowed.ledger import Ledger, booked, regret
from stillowed.lengths import check_lengths, chosen_rows, lengths, plain, rows_along, ways
from stillowed.lists import count_of, least_rows, lists, lists_by, lists_of, lists_to_depth, row_by, row_products
from stillowed.met import check_met, met, run_to
from stillowed.moments import (all_moments, check_moment, deeds_of, moved, moves, run_moments, start, way_to)
from stillowed.owed import OwedTable, TwoEndings, court, joined_row, looks
from stillowed.piles import (Piles, check_piles, is_possible, later_deeds, links, may_be_over, piles_of, run_like, tops)
from stillowed.rows import (check_row, common, common_all, cover, first_fit, fits, greatest_rows, in_order, last_fit,
                            within)
from stillowed.tallies import nth_run, place_of_run, run_count
from stillowed.trails import trail_to
from stillowed.useful import check_ranks, check_useless, ranks, useless

VIEW = {"take": ("t", "k"), "card": (), "stamp": ("s",), "send": ("z",), "more": ("q",)}
RUN = (("do", 0), ("call", 1), ("do", 1))
COURSES = (("main", ("seq", (("deed", "a"), ("maybe", ("call", "main"))))),)

PLAIN = plain(ORDER)
TABLE = court(ORDER, PLAIN)
NEST_TABLE = court(NEST, plain(NEST))
PAIR = (("pay", 0), ("order", 2))
DEALING = (("card", "desk"), ("send", "mail"), ("stamp", "desk"), ("take", "desk"))
LISTS = lists(ORDER, VIEW)
PILES = piles_of(ORDER, ("card",), ("card",))
ROWS = [("b",), ("a", "b"), ("b",)]

# Each function with arguments by the names of the document.
CALLS = [
    (ranks, {"book": ORDER}), (useless, {"book": ORDER}), (check_ranks, {"book": ORDER, "table": ranks(ORDER)}),
    (check_useless, {"book": ORDER, "stages": ()}),
    (endings, {"book": ORDER, "stage": ("pay", 0), "size": 3}), (nth_ending, {"book": ORDER, "stage": ("pay", 0), "n": 1}),
    (has_ending, {"book": ORDER, "stage": ("pay", 0), "row": ("card",)}),
    (normal, {"expression": COURSES[0][1]}), (rows_of, {"courses": COURSES, "name": "main", "size": 3}),
    (plain, {"book": ORDER}), (lengths, {"book": ORDER, "view": VIEW}), (ways, {"book": ORDER, "view": VIEW}),
    (rows_along, {"book": ORDER, "view": VIEW, "chosen": ways(ORDER, VIEW)}), (chosen_rows, {"book": ORDER, "view": VIEW}),
    (check_lengths, {"book": ORDER, "view": VIEW, "table": lengths(ORDER, VIEW), "chosen": ways(ORDER, VIEW)}),
    (met, {"book": ORDER}), (run_to, {"book": ORDER, "stage": ("pay", 3)}),
    (check_met, {"book": ORDER, "table": met(ORDER)}),
    (start, {"book": ORDER}), (check_moment, {"book": ORDER, "moment": (("order", 1),)}),
    (way_to, {"book": ORDER, "moment": (("pay", 3), ("order", 2))}), (all_moments, {"book": ORDER, "most": 20}),
    (moves, {"book": ORDER, "moment": (("pay", 0), ("order", 2))}),
    (moved, {"book": ORDER, "moment": (("pay", 0), ("order", 2)), "move": ("do", 1)}),
    (run_moments, {"book": ORDER, "run": RUN}), (deeds_of, {"book": ORDER, "run": RUN}),
    (check_row, {"row": ("a",)}), (in_order, {"rows": ROWS}), (greatest_rows, {"rows": ROWS}),
    (within, {"u": ("a",), "v": ("b", "a")}), (fits, {"u": ("a",), "v": ("b", "a")}),
    (first_fit, {"u": ("a",), "v": ("b", "a")}), (last_fit, {"u": ("a",), "v": ("b", "a")}),
    (common, {"u": ("a",), "v": ("b", "a")}), (common_all, {"rows": ROWS}), (cover, {"u": ("a",), "v": ("b", "a")}),
    (length_bound, {"book": ORDER}), (tallest, {"counts": (3, 4)}),
    (run_count, {"book": ORDER, "stage": ("pay", 0), "moves": 3}), (nth_run, {"book": ORDER, "stage": ("pay", 0), "n": 1}),
    (place_of_run, {"book": ORDER, "stage": ("pay", 0), "run": (("do", 1), ("do", 2), ("leave",))}),
    (deed_counts, {"book": ORDER, "row": ("card",)}), (floors, {"book": ORDER}),
    (goes_together, {"book": ORDER, "stage": ("pay", 0), "lot": ("card",)}), (conflict, {"book": ORDER, "stage": ("pay", 0)}),
    (least_counts, {"book": ORDER}), (check_counts, {"book": ORDER, "table": least_counts(ORDER)}),
    (check_dealing, {"book": ORDER, "dealing": DEALING}), (one_desk, {"book": ORDER}), (own_desks, {"book": ORDER}),
    (desks_of, {"dealing": DEALING}), (deeds_at, {"dealing": DEALING, "desk": "desk"}),
    (desk_of, {"dealing": DEALING, "deed": "send"}), (part, {"dealing": DEALING, "desk": "mail", "row": ("send", "card")}),
    (parts, {"dealing": DEALING, "row": ("send", "card")}), (within_by, {"dealing": DEALING, "u": ("card",), "v": ("send",)}),
    (same_by, {"dealing": DEALING, "u": ("card",), "v": ("send",)}), (view_at, {"dealing": DEALING, "desk": "mail"}),
    (blocks_of, {"dealing": DEALING}), (dealing_of, {"blocks": (("b",), ("a", "c"))}),
    (is_finer, {"one": DEALING, "other": DEALING}), (common_finer, {"one": DEALING, "other": own_desks(ORDER)}),
    (joined_row, {"book": ORDER, "view": PLAIN, "rows": TABLE.rows, "stage": ("order", 1), "k": 1}),
    (looks, {"book": ORDER, "view": PLAIN, "rows": TABLE.rows}), (court, {"book": ORDER, "view": VIEW}),
    (court, {"book": TORN, "view": plain(TORN)}), (trail_to, {"book": ORDER, "stage": ("pay", 3)}),
    (OwedTable, {"book": ORDER, "view": VIEW, "rows": {("a", 0): ()}, "chosen": {("a", 0): ("end",)}, "ranks": {("a", 0): 0}}),
    (TwoEndings, {"stage": ("a", 0), "trail": ((),), "least": {("a", 0): 0}, "chosen": {("a", 0): ("end",)}, "one": ("a",),
                  "other": ()}),
    (sites, {"table": TABLE}), (debt, {"table": TABLE, "moment": PAIR}), (greatest_debt, {"table": TABLE}),
    (greatest_debt, {"table": NEST_TABLE}), (Ring, {"table": NEST_TABLE, "lap": (("main", 2),), "base": ()}),
    (Heights, {"table": TABLE, "heights": {"order": 3, "pay": 1}, "peak": (("order", 0),)}),
    (check_heights, {"table": TABLE, "heights": {"order": 3, "pay": 1}, "peak": (("order", 0),)}),
    (check_ring, {"table": NEST_TABLE, "lap": (("main", 2),), "base": ()}), (soonest, {"table": NEST_TABLE, "wanted": 4}),
    (regret, {"table": TABLE, "moment": PAIR, "move": ("do", 1)}), (Ledger, {"table": TABLE}),
    (booked, {"table": TABLE, "run": RUN}), (row_by, {"view": VIEW, "row": ("take", "send")}), (least_rows, {"rows": ROWS}),
    (row_products, {"lots": [ROWS, ROWS]}), (lists, {"book": ORDER, "view": VIEW}),
    (lists_to_depth, {"book": ORDER, "view": VIEW, "depth": 1}),
    (lists_by, {"table": LISTS, "view": {"t": (), "k": ("k",), "s": (), "z": ("a",)}}),
    (lists_of, {"table": LISTS, "moment": PAIR}), (count_of, {"table": LISTS, "moment": PAIR}),
    (Piles, {"book": ORDER, "seen": (), "shown": (), "walks": {("order", 0, 0, 0): 0},
             "frames": {("order", 0): 0}}),
    (piles_of, {"book": ORDER, "seen": ("card",), "shown": ("card",)}), (check_piles, {"piles": PILES}),
    (links, {"piles": PILES}), (tops, {"piles": PILES}), (is_possible, {"piles": PILES, "moment": PAIR}),
    (run_like, {"piles": PILES, "moment": (("pay", 2), ("order", 2))}), (may_be_over, {"piles": PILES}),
    (later_deeds, {"piles": PILES}),
]


class EveryFunctionTest(EveryCall, unittest.TestCase):
    calls = CALLS

    def test_limits_of_lists_by_name(self):
        self.assertEqual(lists(ORDER, view=VIEW, longest=40, most=60), LISTS)
        self.assertEqual(lists_to_depth(book=ORDER, view=VIEW, depth=2, longest=4, most=1), LISTS)
        self.assertEqual(one_desk(book=ORDER, desk="q")[0], ("card", "q"))

    def test_objects_keep_copies(self):
        for kind, told in CALLS:
            if kind in (OwedTable, TwoEndings, Heights, Piles):
                passed = {name: dict(value) if isinstance(value, dict) else value for name, value in told.items()}
                made = kind(**passed)
                before = written(made)
                for value in passed.values():
                    if isinstance(value, dict):
                        value.clear()
                self.assertEqual(written(made), before, kind.__name__)

    def test_rows_for_other_names_are_ignored(self):
        for function in (lengths, ways, chosen_rows, lists):
            self.assertEqual(function(NEST, {**plain(NEST), "zzzzz": ("q",) * 9}), function(NEST, plain(NEST)))

    def test_books_stay_as_they_were(self):
        for book in brute.mixed_books(71, 30):
            before = copy.deepcopy(vars(book))
            for function in (ranks, useless, met, plain):
                function(book)
            ways(book, plain(book))
            for stage in book.stages():
                nth_ending(book, stage, 3)
            self.assertEqual(vars(book), before)
            self.assertEqual(book, Book(book.courses))


if __name__ == "__main__":
    unittest.main()
