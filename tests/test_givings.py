"""[37]: givings."""

import copy
import random
import time
import unittest

import brute
import tables
from samples import DEAD, NEST, ORDER, TORN, call, course, do, one_course
from stillowed.books import Book
from stillowed.errors import NoEnding
from stillowed.givings import check_giving, giving_of
from stillowed.lengths import plain
from stillowed.moments import all_moments
from stillowed.owed import OwedTable, court
from stillowed.single import owed_at


def closed_moments(book, first, most=60):
    """All moments to which moves lead from a moment, None if they are too many."""
    good = brute.useful(book)
    found = {first}
    waiting = [first]
    while waiting and len(found) <= most:
        moment = waiting.pop()
        for move in brute.let(book, good, moment):
            after = brute.behind(book, moment, move)
            if after not in found:
                found.add(after)
                waiting.append(after)
    return None if len(found) > most else tuple(found)


class GivingTest(unittest.TestCase):
    def test_order(self):
        table = court(ORDER, plain(ORDER))
        giving = giving_of(table, all_moments(ORDER, 60))
        self.assertEqual(giving[(("pay", 0), ("order", 2))], ("card", "send"))
        self.assertEqual(giving[()], ())
        before = copy.deepcopy(giving)
        self.assertTrue(check_giving(ORDER, plain(ORDER), giving))
        self.assertEqual(giving, before)
        for moment in giving:
            without = {key: row for key, row in giving.items() if key != moment}
            # Without the start nothing leads out of the others.
            self.assertIs(check_giving(ORDER, plain(ORDER), without), moment == (("order", 0),))
            for wrong in (giving[moment] + ("send",), giving[moment][1:], ("x",) + giving[moment], ("stamp",)):
                if wrong != giving[moment]:
                    self.assertIs(check_giving(ORDER, plain(ORDER), {**giving, moment: wrong}), False)
        self.assertTrue(check_giving(ORDER, plain(ORDER), {(): ()}))
        self.assertTrue(check_giving(ORDER, plain(ORDER), {}))
        self.assertFalse(check_giving(ORDER, plain(ORDER), {(): ("send",)}))
        self.assertEqual(giving_of(table, ()), {})

    def test_rows_that_are_endings_but_not_within_all(self):
        giving = {(("main", n),): row for n, row in enumerate([("card",), (), ("stamp",), ()])}
        self.assertIs(check_giving(TORN, plain(TORN), {**giving, (): ()}), False)
        self.assertIs(check_giving(TORN, plain(TORN), {**giving, (("main", 0),): ("cash", "stamp"), (): ()}), False)
        view = {"card": ("x",), "cash": ("x",), "stamp": ()}
        rows = {(("main", n),): row for n, row in enumerate([("x",), (), (), ()])}
        self.assertTrue(check_giving(TORN, view, {**rows, (): ()}))

    def test_rows_within_all_that_are_no_endings(self):
        # Along the ring of h nothing is shown: a row can pass all looks there and be no ending.
        book = one_course(3, (2,), do(0, "h", 1), do(1, "h", 0), do(1, "a", 2), do(0, "a", 2))
        view = {"h": (), "a": ("a",)}
        right = {(("main", 0),): ("a",), (("main", 1),): ("a",), (("main", 2),): (), (): ()}
        self.assertTrue(check_giving(book, view, right))
        for row in ((), ("a", "a"), ("b",)):
            both = {**right, (("main", 0),): row, (("main", 1),): row}
            self.assertIs(check_giving(book, view, both), False)
        self.assertIs(check_giving(book, view, {**right, (("main", 0),): ()}), False)

    def test_errors(self):
        with self.assertRaises(NoEnding) as caught:
            check_giving(DEAD, plain(DEAD), {(): ("a",)})
        self.assertEqual(caught.exception.stage, ("main", 0))
        with self.assertRaises(NoEnding):
            giving_of(court(ORDER, plain(ORDER)), ((("order", 0),), (("order", 9),)))

    def test_against_owed_rows(self):
        rng = random.Random(2)
        right = wrong = 0
        for book in brute.mixed_books(41, 500):
            if (book.main(), 0) not in brute.useful(book):
                continue
            view = brute.random_view(rng, book, 2) if rng.random() < 0.5 else plain(book)
            moments = closed_moments(book, ((book.main(), 0),))
            if moments is None:
                moments = [m for m in brute.reachable(book, 3, 40) if m]
                moments = closed_moments(book, rng.choice(moments)[:1]) if moments else None
            if moments is None:
                continue
            rows = {moment: owed_at(book, view, moment) for moment in moments}
            if None not in rows.values():
                right += 1
                self.assertTrue(check_giving(book, view, rows))
                table = court(book, view)
                if isinstance(table, OwedTable):
                    self.assertEqual(giving_of(table, moments), rows)
            else:
                wrong += 1
                filled = {moment: rows[moment] if rows[moment] is not None else () for moment in rows}
                self.assertFalse(check_giving(book, view, filled))
            moment = rng.choice(moments)
            spoilt = {key: row if row is not None else () for key, row in rows.items()}
            spoilt[moment] += ("a",)
            self.assertFalse(check_giving(book, view, spoilt))
        self.assertGreater(min(right, wrong), 12)

    def test_tables_stay_as_they_were(self):
        for table in tables.clear_tables(43, 20):
            before = copy.deepcopy(table.rows)
            found = giving_of(table, tuple((stage,) for stage in table.rows))
            found.clear()
            self.assertEqual(table.rows, before)

    def test_2000_moments(self):
        # 7 calls deep, each one in some of 15 places: rows of many deeds.
        begun = time.time()
        book = Book((course("m", 18, (17,), *[do(n, "a", n + 1) for n in range(17)], *[call(n, "x", n + 1)
                     for n in range(17)]),
                     course("x", 18, (17,), *[do(n, "b", n + 1) for n in range(17)], *[call(n, "y", n + 1) for n in range(17)]),
                     course("y", 5, (4,), *[do(n, "c", n + 1) for n in range(4)])))
        view = {"a": (), "b": (), "c": ("c",) * 9}
        table = court(book, view)
        moments = all_moments(book, 2000)
        self.assertGreater(len(moments), 1000)
        self.assertTrue(check_giving(book, view, giving_of(table, moments)))
        long_view = {"a": ("a",) * 20, "b": ("b",), "c": ("c",)}
        chain = one_course(20, (19,), *[do(n, "a", n + 1) for n in range(19)])
        table = court(chain, long_view)
        self.assertTrue(check_giving(chain, long_view, giving_of(table, all_moments(chain, 60))))
        self.assertLess(time.time() - begun, 20)

    def test_rings(self):
        table = court(NEST, plain(NEST))
        moment = (("main", 2), ("main", 2), ("main", 2))
        moments = closed_moments(NEST, moment)
        self.assertTrue(check_giving(NEST, plain(NEST), giving_of(table, moments)))


if __name__ == "__main__":
    unittest.main()
