"""[4] for the functions of texts, single stages, trails, bookings, compared books, onlookers and tails."""

import unittest

from every_call import EveryCall
from samples import NEST, ORDER, course, do
from stillowed.bookings import check_booking, first_booking, many_bookings, payments
from stillowed.compared import Alike, Parted, check_compared, compare
from stillowed.lengths import plain
from stillowed.owed import court
from stillowed.pairs import holders, holds, is_shared, meet, reached, swapped
from stillowed.piles import piles_of
from stillowed.single import counter, lies_in_all, owed_at, owing, progress
from stillowed.surely import Sure, carried, check_sure, least_owing, lowest, sure, unsure
from stillowed.tails import check_tail_pair, tail_need, tail_pair, told_apart
from stillowed.texts import book_of, read_courses, show_courses
from stillowed.trails import check_trail, trail_moment, trail_run
from stillowed.unfold import courses_of

VIEW = {"take": ("t", "k"), "card": (), "stamp": ("s",), "send": ("z",), "more": ("q",)}
TABLE = court(ORDER, plain(ORDER))
OTHER = court(ORDER, VIEW)
RUN = (("do", 0), ("call", 1), ("do", 1))
BOOKING = first_booking(TABLE, RUN)
PILES = piles_of(ORDER, ("card",), ("card",))
SURE = sure(TABLE, PILES)
COURSES = (("main", ("seq", (("deed", "a"), ("seq", (("maybe", ("call", "main")), ("deed", "b")))))),)
ROWS = (("a", "b"), ("c",))
SHORT = court(book_of(read_courses("m: a [b] c")), {"a": ("a",), "b": ("b",), "c": ("c",)})

CALLS = [
    (read_courses, {"text": "m: a b"}), (show_courses, {"courses": COURSES}), (book_of, {"courses": COURSES}),
    (courses_of, {"book": NEST}), (progress, {"book": ORDER, "view": VIEW, "row": ("t", "z")}),
    (lies_in_all, {"book": ORDER, "view": VIEW, "stage": ("order", 0), "row": ("t", "z")}),
    (counter, {"book": ORDER, "view": VIEW, "stage": ("order", 0), "row": ("s",)}),
    (owed_at, {"book": ORDER, "view": VIEW, "moment": (("pay", 0), ("order", 2))}), (owing, {"book": ORDER, "view": VIEW}),
    (check_trail, {"book": ORDER, "stage": ("pay", 2), "trail": ((0, 1), (1,))}),
    (trail_moment, {"book": ORDER, "trail": ((0, 1), (1,))}), (trail_run, {"book": ORDER, "trail": ((0, 1), (1,))}),
    (first_booking, {"table": TABLE, "run": RUN}), (check_booking, {"table": TABLE, "run": RUN, "booking": BOOKING}),
    (payments, {"table": TABLE, "run": RUN, "booking": BOOKING, "since": 1}), (many_bookings, {"table": TABLE, "run": RUN}),
    (tail_need, {"table": SHORT, "most": 9}), (tail_pair, {"table": SHORT, "most": 9, "k": 0}),
    (check_tail_pair, {"table": SHORT, "k": 0, "one": (), "other": (("do", 0),)}), (told_apart, {"table": SHORT, "most": 9}),
    (lowest, {"piles": PILES}), (sure, {"table": TABLE, "piles": PILES}),
    (check_sure, {"table": TABLE, "piles": PILES, "value": SURE}), (unsure, {"table": TABLE, "piles": PILES, "row": ("send",)}),
    (least_owing, {"table": TABLE, "piles": PILES}),
    (carried, {"table": TABLE, "seen": ("card",), "row": ("card", "send"), "deed": "card"}),
    (Sure, {"rows": ((),), "witnesses": ((),), "holdings": ({("order", 0): 0},)}),
    (holders, {"one": ROWS, "other": ROWS}), (holds, {"one": ROWS, "other": ROWS}),
    (swapped, {"book": ORDER, "course": course("pay", 2, (1,), do(0, "a", 1))}), (meet, {"one": ORDER, "other": ORDER}),
    (reached, {"one": ORDER, "other": ORDER}), (is_shared, {"one": ORDER, "other": ORDER, "moment": ()}),
    (compare, {"one": TABLE, "other": TABLE}), (compare, {"one": TABLE, "other": OTHER}),
    (check_compared, {"one": TABLE, "other": TABLE, "value": Alike({"order": ((), ()), "pay": ((), ())})}),
    (Alike, {"leftovers": {"m": ((), ())}}), (Parted, {"pile": (), "one": ("a",), "other": ()}),
]


class EveryFunctionTest(EveryCall, unittest.TestCase):
    calls = CALLS
    kinds = (Sure, Alike, Parted)


if __name__ == "__main__":
    unittest.main()
