"""[66], [67]: which rows are owed at moments, and what several tables owe at once."""

import random
import time
import unittest

import brute
import sound
from samples import NEST, ORDER, call, course, do, full_book, one_course
from stillowed.books import Book
from stillowed.debts import Ring, greatest_debt
from stillowed.errors import InvalidNumber, Refused
from stillowed.lengths import plain
from stillowed.moments import check_moment
from stillowed.owed import OwedTable, court
from stillowed.owing import all_rows, count_rows, owe_together, owes, rows_owed
from tables import clear_tables, looped_tables

DEPTH = 4


def lines_book(*told):
    """Courses, each a line of so many stages by one deed, at each of which the next course may be called.

    The number of stages at the beginning of a line from which nothing is called is told last.
    """
    made = []
    for at, (name, deed, many, free) in enumerate(told):
        steps = [do(n, deed, n + 1) for n in range(many - 1)]
        if at < len(told) - 1:
            steps += [call(n, told[at + 1][0], n) for n in range(free, many)]
        made.append((name, many, (many - 1,), tuple(steps)))
    return Book(tuple(made))


def loop_table(deeds):
    """A table whose moments owe all rows of some deeds: main calls itself before each of them."""
    steps = [step for at, deed in enumerate(deeds) for step in (call(0, "main", at + 1), do(at + 1, deed, 0))]
    book = one_course(len(deeds) + 1, (0,), *steps)
    return court(book, plain(book))


def least_stages(table, most):
    """For each row owed at a moment of at most so many stages the fewest stages, by all such moments."""
    found = {}
    for moment in sound.moments(table.book, most):
        row = table.owed(moment)
        found[row] = min(found.get(row, most), len(moment))
    return found


class OwesTest(unittest.TestCase):
    def test_small_books(self):
        table = court(NEST, plain(NEST))
        self.assertEqual(table.owed(owes(table, ("c", "b", "b"))), ("c", "b", "b"))
        self.assertEqual(len(owes(table, ("c", "b", "b"))), 2)
        self.assertEqual(owes(table, ()), (("main", 3),))
        self.assertEqual(owes(table, ("b", "b")), (("main", 2), ("main", 2)))
        for row in (("a",), ("b", "c"), ("c", "c"), ("zzz",), ("c", "b", "a")):
            self.assertIsNone(owes(table, row))
        table = court(ORDER, plain(ORDER))
        self.assertEqual(owes(table, ("card", "send")), (("order", 1),))
        self.assertEqual(owes(table, ("stamp", "send")), (("pay", 2), ("order", 2)))
        self.assertIsNone(owes(table, ("stamp",)))

    def test_rows_of_any_length(self):
        table = court(NEST, plain(NEST))
        moment = owes(table, ("c",) + ("b",) * 30000)
        self.assertEqual(moment, (("main", 1),) + (("main", 2),) * 29999)
        self.assertIsNone(owes(table, ("a",) + ("b",) * 30000))
        # The fewest stages: one rest owes two deeds at once.
        book = one_course(6, (5,), call(0, "main", 1), do(1, "a", 5), call(0, "main", 2), do(2, "a", 3), do(3, "a", 5),
                          do(0, "h", 5))
        table = court(book, {"a": ("a",), "h": ()})
        self.assertEqual(len(owes(table, ("a",) * 10)), 5)
        self.assertEqual(len(owes(table, ("a",) * 11)), 6)

    def test_random_tables(self):
        rows = 0
        for table in clear_tables(661, 60) + looped_tables(661, 40):
            least = least_stages(table, DEPTH)
            for row in sorted(least, key=lambda row: (len(row), row))[:40]:
                moment = owes(table, row)
                check_moment(table.book, moment)
                self.assertEqual((table.owed(moment), len(moment)), (row, least[row]))
                rows += len(moment) > 1
            for row in ([("q",), ("a", "q")] + [row + row for row in least])[:20]:
                moment = owes(table, row)
                if moment is None:
                    self.assertNotIn(row, least)
                else:
                    self.assertEqual(table.owed(moment), row)
                    self.assertEqual(len(moment), least.get(row, len(moment)))
        self.assertGreater(rows, 100)


class RowsOwedTest(unittest.TestCase):
    def test_small_books(self):
        table = court(NEST, plain(NEST))
        self.assertEqual(rows_owed(table, 0), ((),))
        self.assertEqual(rows_owed(table, 2), ((), ("b",), ("c",), ("b", "b"), ("c", "b")))
        self.assertEqual(len(rows_owed(table, 60)), 121)
        self.assertEqual(rows_owed(court(ORDER, plain(ORDER)), 60),
                         ((), ("send",), ("card", "send"), ("stamp", "send"), ("take", "card", "send")))

    def test_random_tables(self):
        many = 0
        for table in clear_tables(662, 60) + looped_tables(662, 40):
            found = rows_owed(table, 3)
            self.assertEqual(found, brute.in_order(found))
            for row in found:
                self.assertEqual(table.owed(owes(table, row)), row)
            self.assertTrue({row for row in least_stages(table, DEPTH) if len(row) <= 3} <= set(found))
            counted = count_rows(table, 3)
            self.assertEqual(counted, tuple(len([row for row in found if len(row) == size]) for size in range(4)))
            for size in (0, 1, 2):
                self.assertEqual(rows_owed(table, size), tuple(row for row in found if len(row) <= size))
                self.assertEqual(count_rows(table, size), counted[:size + 1])
            many += len(found)
        self.assertGreater(many, 300)

    def test_sizes(self):
        table = court(NEST, plain(NEST))
        for size in (-1, 61, 10 ** 30):
            with self.assertRaises(InvalidNumber) as caught:
                rows_owed(table, size)
            self.assertEqual(caught.exception.word, "size")
        for size in (-1, 41, 10 ** 30):
            with self.assertRaises(InvalidNumber) as caught:
                count_rows(table, size)
            self.assertEqual(caught.exception.word, "size")
        self.assertEqual(count_rows(table, 40), (1,) + (2,) * 40)
        self.assertEqual(count_rows(table, 0), (1,))

    def test_2_000_rows_and_more(self):
        # Rows c ... b ... a, so many of each as the innermost stage and the rests tell.
        book = lines_book(("main", "a", 20, 0), ("x", "b", 10, 0), ("y", "c", 10, 0))
        table = court(book, plain(book))
        wanted = {("c",) * i + ("b",) * j + ("a",) * k for i in range(10) for j in range(10) for k in range(20)}
        self.assertEqual(rows_owed(table, 60), brute.in_order(wanted))
        self.assertEqual(all_rows(table), brute.in_order(wanted))
        self.assertEqual(rows_owed(table, 37), brute.in_order(wanted))
        self.assertEqual(len(rows_owed(table, 36)), 1999)
        # One stage more, before which nothing is called, owes one row more.
        more = lines_book(("main", "a", 20, 0), ("x", "b", 11, 1), ("y", "c", 10, 0))
        table = court(more, plain(more))
        for function in (lambda: rows_owed(table, 60), lambda: all_rows(table)):
            with self.assertRaises(Refused) as caught:
                function()
            self.assertEqual(caught.exception.word, "wide")

    def test_just_one_row_more(self):
        # Unlike sums of 400 i + 20 j + k, in one deed: 2,000 of them, and 2,001 with one more stage at the beginning.
        for many, free, wanted in ((5, 0, 2000), (6, 1, 2001)):
            book = lines_book(("main", "a", many, free), ("x", "b", 20, 0), ("y", "c", 20, 0))
            table = court(book, {"a": ("z",) * 400, "b": ("z",) * 20, "c": ("z",)})
            self.assertIsInstance(table, OwedTable)
            if wanted == 2000:
                self.assertEqual([len(row) for row in all_rows(table)], list(range(2000)))
            else:
                with self.assertRaises(Refused) as caught:
                    all_rows(table)
                self.assertEqual(caught.exception.word, "wide")
        # Rows of twelve deeds: 1885 of at most three, and then more than 2,000.
        table = loop_table("abcdefghijkl")
        self.assertEqual(len(rows_owed(table, 3)), 1 + 12 + 144 + 1728)
        with self.assertRaises(Refused):
            rows_owed(table, 4)
        self.assertEqual(count_rows(table, 5), (1, 12, 144, 1728, 20736, 248832))

    def test_great_counts(self):
        self.assertEqual(count_rows(loop_table("ab"), 40), tuple(2 ** size for size in range(41)))
        # Rows that can be put together in several ways count once: a, b and a b.
        steps = (call(0, "main", 1), do(1, "a", 0), call(0, "main", 2), do(2, "b", 0), call(0, "main", 3), do(3, "a", 4),
                 do(4, "b", 0))
        book = one_course(5, (0,), *steps)
        self.assertEqual(count_rows(court(book, plain(book)), 30), tuple(2 ** size for size in range(31)))


class AllRowsTest(unittest.TestCase):
    def test_small_books(self):
        self.assertEqual(all_rows(court(ORDER, plain(ORDER))),
                         ((), ("send",), ("card", "send"), ("stamp", "send"), ("take", "card", "send")))
        with self.assertRaises(Refused) as caught:
            all_rows(court(NEST, plain(NEST)))
        self.assertEqual(caught.exception.word, "endless")
        # A ring without a debt is no Ring.
        book = one_course(3, (0, 2), call(0, "main", 1), do(1, "h", 2), do(0, "a", 2))
        self.assertEqual(all_rows(court(book, {"h": (), "a": ("a",)})), ((),))

    def test_endless_goes_ahead_of_wide(self):
        book = lines_book(("main", "a", 20, 0), ("x", "b", 11, 0), ("y", "c", 10, 0), ("z", "d", 2, 0))
        ring = Book(book.courses[:-1] + (course("z", 2, (1,), do(0, "d", 1), call(0, "z", 0)),))
        for made, word in ((book, "wide"), (ring, "endless")):
            with self.assertRaises(Refused) as caught:
                all_rows(court(made, plain(made)))
            self.assertEqual(caught.exception.word, word)

    def test_random_tables(self):
        seen = [0, 0]
        for table in clear_tables(663, 60) + looped_tables(663, 60):
            if isinstance(greatest_debt(table), Ring):
                seen[0] += 1
                with self.assertRaises(Refused) as caught:
                    all_rows(table)
                self.assertEqual(caught.exception.word, "endless")
            else:
                seen[1] += 1
                found = all_rows(table)
                self.assertEqual(found, brute.in_order(found))
                for row in found:
                    self.assertEqual(table.owed(owes(table, row)), row)
                self.assertTrue(set(least_stages(table, DEPTH)) <= set(found))
        self.assertGreater(min(seen), 20)


class TogetherTest(unittest.TestCase):
    def test_one_two_and_three_tables(self):
        table = court(NEST, plain(NEST))
        only_b = court(NEST, {"a": (), "b": ("b",), "c": ()})
        only_c = court(NEST, {"a": (), "b": (), "c": ("c", "c")})
        self.assertEqual(owe_together((table,), (0,)), (("main", 0),))
        self.assertEqual(len(owe_together((table,), (20,))), 19)
        self.assertEqual(len(owe_together((only_b,), (20,))), 19 + 1)
        self.assertEqual(len(owe_together((only_c, only_b), (2, 20))), 20)
        self.assertEqual(len(owe_together((only_c, only_b, table), (2, 20, 20))), 20)
        self.assertIsNone(owe_together((only_c,), (3,)))
        self.assertIsNone(owe_together((only_b, only_c), (0, 3)))
        self.assertEqual(owe_together((only_b, only_c), (0, 0)), (("main", 0),))

    def test_numbers(self):
        table = court(NEST, plain(NEST))
        for numbers in ((-1,), (21,), (0, 21), (0, 0, -1), (10 ** 30, 0)):
            with self.assertRaises(InvalidNumber) as caught:
                owe_together((table,) * len(numbers), numbers)
            self.assertEqual(caught.exception.word, "numbers")
        self.assertEqual(len(owe_together((table, table), (20, 0))), 19)

    def test_random_tables(self):
        rng = random.Random(671)
        seen = [0, 0]
        for book in brute.mixed_books(671, 160):
            if (book.main(), 0) not in brute.useful(book):
                continue
            tables = [court(book, view) for view in (plain(book), brute.random_view(rng, book, 1), brute.random_view(rng, book, 2))]
            tables = tuple(table for table in tables if isinstance(table, OwedTable))
            if not tables:
                continue
            moments = sound.moments(book, DEPTH)
            for _ in range(4):
                numbers = tuple(rng.randint(0, rng.choice([1, 2, 4])) for _ in tables)
                told = [len(moment) for moment in moments
                        if all(len(table.owed(moment)) >= number for table, number in zip(tables, numbers))]
                found = owe_together(tables, numbers)
                seen[found is not None] += 1
                if found is None:
                    self.assertEqual(told, [])
                else:
                    check_moment(book, found)
                    self.assertTrue(all(len(table.owed(found)) >= number for table, number in zip(tables, numbers)))
                    self.assertEqual(len(found), min(told, default=len(found)))
                    self.assertTrue(told or len(found) > DEPTH)
        self.assertGreater(min(seen), 50)


class LimitsTest(unittest.TestCase):
    def test_at_the_limits(self):
        began = time.time()
        rng = random.Random(664)
        for _ in range(10):
            book = full_book(rng)
            for shown in book.deeds()[:3]:
                table = court(book, {deed: (deed,) if deed == shown else () for deed in book.deeds()})
                if isinstance(table, OwedTable):
                    count_rows(table, 40)
                    rows_owed(table, 60)
                    owe_together((table, table, table), (20, 19, 18))
        table = loop_table("ab")
        self.assertEqual(len(owe_together((table,) * 3, (20,) * 3)), 20)
        self.assertLess(time.time() - began, 10)


if __name__ == "__main__":
    unittest.main()
