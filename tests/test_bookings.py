"""[36]: bookings of runs."""

import itertools
import random
import unittest

import tables
from brute import ODD_VALUES
from samples import NEST, ORDER, call, course, do, one_course
from stillowed.books import Book
from stillowed.bookings import check_booking, first_booking, many_bookings, payments
from stillowed.errors import InvalidMove
from stillowed.ledger import booked
from stillowed.lengths import plain
from stillowed.moments import moved, moves, start
from stillowed.owed import court
from stillowed.texts import book_of, read_courses

# main: a | a a: the step to the second one is a needless deed, or pays the debt early or late.
TWICE = one_course(3, (1, 2), do(0, "a", 1), do(0, "a", 0), do(1, "b", 2))
TABLE = court(TWICE, plain(TWICE))


def all_fits(u, v):
    return [places for places in itertools.combinations(range(len(v)), len(u)) if [v[p] for p in places] == list(u)]


def lines(table, run):
    """For each move (row owed before, shown row, row owed after), by the words of the document."""
    found = []
    moment = start(table.book)
    for move in run:
        after = moved(table.book, moment, move)
        shown = ()
        if move[0] == "do":
            shown = table.view[table.book.steps(moment[0][0])[move[1]][2]]
        found.append((table.owed(moment), shown, table.owed(after)))
        moment = after
    return found


def random_run(rng, table, most=10):
    moment = start(table.book)
    run = ()
    while moment and len(run) < most and len(moment) < 6:
        move = rng.choice(moves(table.book, moment))
        run += (move,)
        moment = moved(table.book, moment, move)
    return run


class BookingTest(unittest.TestCase):
    def test_small_runs(self):
        run = (("do", 1), ("do", 1), ("do", 0))
        self.assertEqual(first_booking(TABLE, run), ((0,), (0,), (0,)))
        self.assertEqual(many_bookings(TABLE, run), 4)
        self.assertEqual(many_bookings(TABLE, ()), 1)
        self.assertEqual(first_booking(TABLE, ()), ())
        for booking in (((0,), (0,), (0,)), ((1,), (0,), (0,)), ((1,), (1,), (0,))):
            self.assertTrue(check_booking(TABLE, run, booking))
        for booking in (((0,), (0,)), ((0,), (0,), (1,)), ((2,), (0,), (0,)), ((0, 1), (0,), (0,)), ((), (0,), (0,)),
                        ((0,), (0,), (0,), ()), ((-1,), (0,), (0,)), ((True,), (0,), (0,)), ((0.0,), (0,), (0,)),
                        [(0,), (0,), (0,)], ([0], (0,), (0,)), (None, (0,), (0,))):
            self.assertFalse(check_booking(TABLE, run, booking), booking)
        self.assertEqual(payments(TABLE, run, ((1,), (1,), (0,)), 0), (3,))
        self.assertEqual(payments(TABLE, run, ((1,), (0,), (0,)), 0), (2,))
        self.assertEqual(payments(TABLE, run, ((0,), (0,), (0,)), 0), (1,))
        self.assertEqual([payments(TABLE, run, ((0,), (1,), (0,)), since) for since in range(4)],
                         [(1,), (3,), (3,), ()])
        self.assertEqual(payments(TABLE, run[:1], ((1,),), 0), (None,))
        self.assertEqual(payments(TABLE, run[:1], ((1,),), 1), (None,))

    def test_places_ascend(self):
        table = court(one_course(3, (2,), do(0, "h", 0), do(0, "a", 1), do(1, "a", 2)), {"h": ("a",), "a": ("a",)})
        for places in ((0, 1), (0, 2), (1, 2)):
            self.assertTrue(check_booking(table, (("do", 0),), (places,)))
        for places in ((1, 0), (0, 0), (2, 1), (1, 1), (0, 3), (0, 1, 2), (0,)):
            self.assertFalse(check_booking(table, (("do", 0),), (places,)))

    def test_runs_with_calls(self):
        table = court(NEST, plain(NEST))
        run = (("do", 0), ("call", 2), ("do", 0), ("call", 2), ("do", 1), ("leave",), ("do", 3))
        self.assertEqual(first_booking(table, run)[:3], ((1,), (0, 1), (1, 2)))
        self.assertEqual(payments(table, run, first_booking(table, run), 0), (5,))
        self.assertEqual(payments(table, run, first_booking(table, run), 3), (5, 7, None))
        self.assertEqual(many_bookings(table, run), 1 * 1 * 2 * 1 * 1 * 1 * 1)

    def test_against_all_fits(self):
        rng = random.Random(2)
        many_ones = 0
        for table in tables.clear_tables(21, 160):
            run = random_run(rng, table)
            told = lines(table, run)
            fits = [all_fits(before, shown + after) for before, shown, after in told]
            product = 1
            for one in fits:
                product *= len(one)
            self.assertEqual(many_bookings(table, run), product)
            many_ones += product > 1
            self.assertEqual(first_booking(table, run), tuple(one[0] for one in fits))
            ledger = booked(table, run)
            first = tuple(one[0] for one in fits)
            self.assertEqual(payments(table, run, first, 0),
                             tuple(ledger.history(n)[2] for n in range(len(table.owed(start(table.book))))))
            for _ in range(3):
                booking = tuple(rng.choice(one) for one in fits)
                self.assertTrue(check_booking(table, run, booking))
                for since in range(len(run) + 1):
                    found = payments(table, run, booking, since)
                    early = payments(table, run, first, since)
                    self.assertEqual(len(found), len(told[since][0] if since < len(told) else ledger.owed()))
                    for one, other in zip(early, found):
                        self.assertTrue(other is None or (one is not None and since < one <= other <= len(run)))
                if run:
                    at = rng.randrange(len(run))
                    spoilt = booking[:at] + (booking[at] + (0,),) + booking[at + 1:]
                    self.assertFalse(check_booking(table, run, spoilt))
        self.assertGreater(many_ones, 8)

    def test_any_values(self):
        for value in ODD_VALUES:
            self.assertEqual(check_booking(TABLE, (), value), value == () and isinstance(value, tuple))
            self.assertFalse(check_booking(TABLE, (("do", 1),), value))
            self.assertFalse(check_booking(TABLE, (("do", 1),), (value,)))
            self.assertFalse(check_booking(TABLE, (("do", 1),), ((value,),)))
        for function, more in ((first_booking, ()), (check_booking, ((),)), (payments, ((), 0)), (many_bookings, ())):
            for value in ODD_VALUES:
                if not isinstance(value, tuple) or value:
                    with self.assertRaises(InvalidMove) as caught:
                        function(TABLE, value, *more)
                    self.assertEqual(caught.exception.at, -1 if not isinstance(value, tuple) else 0)
            with self.assertRaises(InvalidMove) as caught:
                function(TABLE, (("do", 0), ("leave",), ("leave",)), *more)
            self.assertEqual(caught.exception.at, 2)

    def test_long_runs(self):
        book = book_of(read_courses("main: a (main) b | {c} d"))
        table = court(book, plain(book))
        # 58 open calls, then a long loop of needless deeds in the innermost course.
        made = (("do", 0), ("call", 3)) * 58 + (("do", 1),) + (("do", 5),) * 1800
        self.assertEqual(len(first_booking(table, made)), len(made))
        self.assertGreaterEqual(many_bookings(table, made), 1)
        wide = Book((course("m", 2, (1,), do(0, "a", 0), do(0, "b", 1)),))
        table = court(wide, {"a": ("x",) * 200, "b": ("x",) * 200})
        run = (("do", 0),) * 300 + (("do", 1),)
        many = many_bookings(table, run)
        self.assertGreater(many.bit_length(), 10000)
        self.assertEqual(payments(table, run, first_booking(table, run), 0), (1,) * 200)
        self.assertEqual(payments(table, run, first_booking(table, run), 300), (301,) * 200)


class OrderTest(unittest.TestCase):
    def test_no_regret_no_choice(self):
        table = court(ORDER, plain(ORDER))
        run = (("do", 0), ("call", 1), ("do", 0), ("leave",), ("do", 2), ("leave",))
        self.assertEqual(many_bookings(table, run), 1)
        self.assertEqual(payments(table, run, first_booking(table, run), 0), (1, 3, 5))
        self.assertEqual(payments(table, run, first_booking(table, run), len(run)), ())
        self.assertEqual(call(0, "x", 1), (0, "call", "x", 1))


if __name__ == "__main__":
    unittest.main()
