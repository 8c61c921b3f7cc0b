"""[103], [104]: books joined, and their tables."""

import random
import time
import unittest

import brute
from samples import DEAD, NEST, ORDER, TORN, call, course, do, full_book, one_course, tall
from sound import is_sound_table
from stillowed.books import Book
from stillowed.errors import InvalidBook, NoEnding, Refused
from stillowed.joined import behind, behind_table, either, either_table, filled, filled_table
from stillowed.lengths import plain
from stillowed.met import met
from stillowed.owed import OwedTable, TwoEndings, court
from stillowed.papers import check_table
from stillowed.rows import within
from tables import clear_tables

SHOP = Book((course("shop", 3, (2,), do(0, "card", 1), do(1, "wrap", 2)),))
LIFT = Book((course("lift", 3, (1, 2), do(0, "haul", 1), do(0, "haul", 2)), course("idle", 2, (), do(0, "x", 1))))


def fault(case, function, *told):
    """The error that is raised: its class and what it tells."""
    with case.assertRaises((InvalidBook, NoEnding, Refused)) as caught:
        function(*told)
    return type(caught.exception), list(vars(caught.exception).values())[0]


def renamed(book, mark):
    """The book with other names of its courses."""
    names = {name: name[:3] + mark for name in book.names()}
    return Book(tuple((names[name], many, ends, tuple((a, kind, names[word] if kind == "call" else word, b)
                                                      for a, kind, word, b in steps)) for name, many, ends, steps in book.courses))


def pair_of_books(rng, books):
    return renamed(rng.choice(books), "p"), renamed(rng.choice(books), "q")


class BooksTest(unittest.TestCase):
    def test_small_books(self):
        self.assertEqual(behind(ORDER, SHOP, "both").courses, (
            ("both", 3, (2,), ((0, "call", "order", 1), (1, "call", "shop", 2))),) + ORDER.courses + SHOP.courses)
        self.assertEqual(either(ORDER, SHOP, "any").courses, (
            ("any", 2, (1,), ((0, "call", "order", 1), (0, "call", "shop", 1))),) + ORDER.courses + SHOP.courses)
        self.assertEqual(filled(ORDER, "card", LIFT).courses, (
            ORDER.courses[0], ("pay", 4, (1, 3), ((0, "call", "lift", 1), (0, "call", "lift", 2), (2, "do", "stamp", 3))),
        ) + LIFT.courses)

    def test_errors(self):
        for function in (behind, either):
            for name in ("order", "pay", "shop"):
                self.assertEqual(fault(self, function, ORDER, SHOP, name), (Refused, "names"))
            self.assertEqual(fault(self, function, ORDER, ORDER, "m"), (Refused, "names"))
            self.assertEqual(fault(self, function, DEAD, NEST, "m"), (Refused, "names"))
            dead = renamed(DEAD, "q")
            self.assertEqual(fault(self, function, dead, SHOP, "m"), (NoEnding, ("maiq", 0)))
            self.assertEqual(fault(self, function, SHOP, dead, "m"), (NoEnding, ("maiq", 0)))
            self.assertEqual(fault(self, function, renamed(DEAD, "a"), renamed(DEAD, "b"), "m"), (NoEnding, ("maia", 0)))
            self.assertEqual(fault(self, function, SHOP, LIFT, "Wrong"), (InvalidBook, 0))
            # NoEnding goes ahead of InvalidBook.
            self.assertEqual(fault(self, function, dead, SHOP, "Wrong"), (NoEnding, ("maiq", 0)))
        self.assertEqual(fault(self, filled, ORDER, "cash", ORDER), (Refused, "deed"))
        self.assertEqual(fault(self, filled, ORDER, "card", ORDER), (Refused, "names"))
        self.assertEqual(fault(self, filled, DEAD, "a", renamed(DEAD, "q")), (NoEnding, ("main", 0)))
        self.assertEqual(fault(self, filled, ORDER, "card", renamed(DEAD, "q")), (NoEnding, ("maiq", 0)))
        self.assertEqual(fault(self, filled, ORDER, "order", LIFT), (Refused, "deed"))

    def test_books_beyond_the_limits(self):
        twenties = tall((20, 20))
        more = renamed(tall((16,)), "z")
        self.assertEqual(len(behind(twenties, more, "new").stages()), 59)
        self.assertEqual(fault(self, behind, twenties, renamed(tall((18,)), "z"), "new"), (InvalidBook, 3))
        self.assertEqual(len(either(twenties, renamed(tall((18,)), "z"), "new").stages()), 60)
        self.assertEqual(fault(self, either, twenties, renamed(tall((19,)), "z"), "new"), (InvalidBook, 3))
        eight = tall((2,) * 7)
        self.assertEqual(fault(self, either, eight, renamed(tall((2,)), "z"), "new"), (InvalidBook, 8))
        self.assertEqual(len(filled(eight, "x", renamed(tall((2,)), "z")).courses), 8)
        self.assertEqual(fault(self, filled, eight, "x", renamed(tall((2, 2)), "z")), (InvalidBook, 8))
        letters = "abcdefghijkl"
        wide = Book((course("wide", 2, (1,), *[do(0, letter, 1) for letter in letters]),))
        two = Book((course("two", 3, (2,), do(0, "y", 1), do(1, "z", 2)),))
        self.assertEqual(fault(self, behind, wide, two, "new"), (InvalidBook, 2))
        self.assertEqual(fault(self, behind, two, wide, "new"), (InvalidBook, 2))
        self.assertEqual(fault(self, filled, wide, "a", two), (InvalidBook, 1))
        # The deed that is replaced counts no more, unless the other book does it.
        one = Book((course("one", 2, (1,), do(0, "z", 1)),))
        self.assertEqual(len(filled(wide, "a", one).deeds()), 12)
        self.assertEqual(fault(self, filled, wide, "a", Book((course("one", 3, (2,), do(0, "z", 1), do(1, "a", 2)),))),
                         (InvalidBook, 1))


class JoinedTablesTest(unittest.TestCase):
    def check(self, table, book, view):
        """The table is one of this book and view, sound, and has the rows of the met stages."""
        self.assertEqual((table.book, table.view), (book, view))
        self.assertTrue(is_sound_table(table))
        self.assertTrue(check_table(table))
        self.assertEqual(list(table.rows), sorted(met(book)))
        self.assertEqual(table.rows, court(book, view).rows)

    def test_small_books(self):
        one, other = court(ORDER, {**plain(ORDER), "more": ("q",)}), court(SHOP, {"card": ("card",), "wrap": (), "none": ()})
        table = behind_table(one, other, "both")
        view = {**plain(ORDER), "wrap": ()}
        self.check(table, behind(ORDER, SHOP, "both"), view)
        self.assertEqual(table.row(("both", 0)), ("take", "card", "send", "card"))
        self.assertEqual(either_table(one, other, "any").row(("any", 0)), ("card",))
        self.assertEqual(either_table(other, one, "any").row(("any", 0)), ("card",))
        self.check(either_table(one, other, "any"), either(ORDER, SHOP, "any"), view)
        self.check(either_table(other, one, "any"), either(SHOP, ORDER, "any"), view)
        self.assertIsNone(either_table(one, court(SHOP, plain(SHOP)), "any"))

    def test_errors(self):
        one, other = court(ORDER, plain(ORDER)), court(SHOP, {"card": (), "wrap": ()})
        dead_name = court(renamed(SHOP, ""), plain(SHOP))
        for function in (behind_table, either_table):
            self.assertEqual(fault(self, function, one, other, "shop"), (Refused, "names"))
            self.assertEqual(fault(self, function, one, one, "m"), (Refused, "names"))
            self.assertEqual(fault(self, function, one, other, "m"), (Refused, "view"))
            self.assertEqual(fault(self, function, one, other, "Wrong"), (Refused, "view"))
            self.assertEqual(fault(self, function, one, dead_name, "Wrong"), (InvalidBook, 0))
        wide = court(tall((20, 20, 19)), {"x": ()})
        self.assertEqual(fault(self, behind_table, wide, court(LIFT, plain(LIFT)), "new"), (Refused, "view"))
        self.assertEqual(fault(self, behind_table, wide, one, "new"), (InvalidBook, 3))
        # Neither row lies within the other one, but the book is wrong first.
        self.assertEqual(fault(self, either_table, court(ORDER, plain(ORDER)), court(SHOP, plain(SHOP)), "Wrong"), (InvalidBook, 0))

    def test_views_for_the_deeds_of_their_books_alone(self):
        # The view of the second table has another row for a deed that only the first book has.
        one, other = court(ORDER, plain(ORDER)), court(SHOP, {"card": ("card",), "wrap": ("w",), "send": (), "take": ()})
        view = {**plain(ORDER), "wrap": ("w",)}
        self.check(behind_table(one, other, "both"), behind(ORDER, SHOP, "both"), view)
        self.check(behind_table(other, one, "both"), behind(SHOP, ORDER, "both"), view)

    def test_random_tables(self):
        rng = random.Random(1031)
        tables = [table for table in clear_tables(1031, 80)]
        seen = {"behind": 0, "either": 0, "none": 0}
        for _ in range(300):
            pair = []
            for mark in "pq":
                table = rng.choice(tables)
                while rng.random() < 0.7 and table.view != plain(table.book):
                    table = rng.choice(tables)
                book = renamed(table.book, mark)
                pair.append(court(book, table.view))
            one, other = pair
            both = set(one.book.deeds()) & set(other.book.deeds())
            if any(one.view[deed] != other.view[deed] for deed in both):
                self.assertEqual(fault(self, behind_table, one, other, "new"), (Refused, "view"))
                self.assertEqual(fault(self, either_table, one, other, "new"), (Refused, "view"))
                continue
            view = {**{deed: one.view[deed] for deed in one.book.deeds()}, **{deed: other.view[deed] for deed in other.book.deeds()}}
            self.check(behind_table(one, other, "new"), behind(one.book, other.book, "new"), view)
            seen["behind"] += 1
            u, v = (table.row((table.book.main(), 0)) for table in pair)
            table = either_table(one, other, "new")
            verdict = court(either(one.book, other.book, "new"), view)
            if table is None:
                seen["none"] += 1
                self.assertFalse(within(u, v) or within(v, u))
                self.assertIsInstance(verdict, TwoEndings)
            else:
                seen["either"] += 1
                self.check(table, either(one.book, other.book, "new"), view)
        self.assertGreater(min(seen.values()), 15)

    def test_clear_exactly_if_both_are(self):
        rng = random.Random(1032)
        books = [book for book in brute.mixed_books(1032, 200) if (book.main(), 0) in brute.useful(book)]
        seen = [0, 0]
        for _ in range(200):
            one, other = pair_of_books(rng, books)
            verdicts = [court(book, plain(book)) for book in (one, other)]
            clear = all(isinstance(verdict, OwedTable) for verdict in verdicts)
            joined = court(behind(one, other, "new"), plain(behind(one, other, "new")))
            self.assertEqual(isinstance(joined, OwedTable), clear)
            seen[clear] += 1
        self.assertGreater(min(seen), 30)

    def test_rows_longer_than_court_makes(self):
        # The joined rows have more than 20,000 deeds together; nothing refuses them.
        one, other = (court(renamed(tall((20,)), mark), {"x": ("x",) * 100}) for mark in "pq")
        table = behind_table(one, other, "new")
        self.assertTrue(is_sound_table(table))
        self.assertEqual(len(table.row(("new", 0))), 2 * 1900)
        with self.assertRaises(Refused):
            court(table.book, table.view)


class FilledTest(unittest.TestCase):
    check = JoinedTablesTest.check

    def test_small_books(self):
        lift = court(LIFT, plain(LIFT))
        one = court(ORDER, {**plain(ORDER), "card": ("haul",), "haul": ("zz",)})
        table = filled_table(one, "card", lift)
        view = {"take": ("take",), "stamp": ("stamp",), "send": ("send",), "haul": ("haul",), "x": ("x",)}
        self.check(table, filled(ORDER, "card", LIFT), view)
        self.assertEqual(table.row(("order", 0)), ("take", "haul", "send"))
        self.assertIn(("lift", 1), table.rows)

    def test_errors(self):
        lift, one = court(LIFT, plain(LIFT)), court(ORDER, plain(ORDER))
        self.assertEqual(fault(self, filled_table, one, "cash", one), (Refused, "deed"))
        self.assertEqual(fault(self, filled_table, one, "card", one), (Refused, "names"))
        self.assertEqual(fault(self, filled_table, one, "card", lift), (Refused, "view"))
        # The deed is shown as the row owed, but another deed of both books is shown unlike.
        main = Book((course("m", 3, (2,), do(0, "a", 1), do(1, "b", 2)),))
        part = Book((course("p", 2, (1,), do(0, "b", 1)),))
        self.assertEqual(fault(self, filled_table, court(main, {"a": ("q",), "b": ("b",)}), "a", court(part, {"b": ("q",)})),
                         (Refused, "view"))
        self.check(filled_table(court(main, {"a": ("q",), "b": ("q",)}), "a", court(part, {"b": ("q",)})),
                   filled(main, "a", part), {"b": ("q",)})
        # The deed itself may be one of the other book, shown as that shows it.
        self.check(filled_table(court(main, {"a": ("q", "q"), "b": ("b",)}), "b", court(part, {"b": ("b",)})),
                   filled(main, "b", part), {"a": ("q", "q"), "b": ("b",)})
        twice = Book((course("p", 3, (2,), do(0, "b", 1), do(1, "b", 2)),))
        self.check(filled_table(court(main, {"a": ("a",), "b": ("z", "z")}), "b", court(twice, {"b": ("z",)})),
                   filled(main, "b", twice), {"a": ("a",), "b": ("z",)})
        wide = court(tall((20, 20, 2)), {"x": ("y",) * 5})
        for deed in "yx":
            line = Book((course("z", 18, (5,), *[do(n, deed, n + 1) for n in range(5)]), course("w", 1, (0,))))
            self.assertEqual(fault(self, filled_table, wide, "x", court(line, {deed: ("y",)})), (InvalidBook, 4))

    def test_a_deed_that_only_steps_do_that_are_not_met(self):
        book = Book((course("m", 4, (1,), do(0, "a", 1), do(2, "b", 1), do(0, "b", 3)),))
        part = renamed(SHOP, "p")
        one = court(book, {"a": ("a",), "b": ("card", "wrap")})
        table = filled_table(one, "b", court(part, plain(part)))
        self.check(table, filled(book, "b", part), {"a": ("a",), "card": ("card",), "wrap": ("wrap",)})
        self.assertEqual(sorted(table.rows), [("m", 0), ("m", 1)])

    def test_random_tables(self):
        rng = random.Random(1041)
        tables = clear_tables(1041, 80)
        seen = [0, 0, 0]
        for _ in range(250):
            one, other = rng.choice(tables), rng.choice(tables)
            if not one.book.deeds():
                continue
            deed = rng.choice(one.book.deeds())
            book = renamed(other.book, "q")
            other = court(book, other.view)
            row = other.row((book.main(), 0))
            view = {word: other.view[word] if word in book.deeds() else one.view[word] for word in one.book.deeds()}
            first = court(renamed(one.book, "p"), {**view, deed: row})
            if not isinstance(first, OwedTable):
                seen[0] += 1
                continue
            table = filled_table(first, deed, other)
            joined = filled(first.book, deed, book)
            shown = {word: other.view[word] if word in book.deeds() else view[word] for word in joined.deeds()}
            self.check(table, joined, shown)
            seen[1 + ((book.main(), 0) in table.rows)] += 1
        self.assertGreater(min(seen[1:]), 5)

    def test_clear_exactly_if(self):
        rng = random.Random(1042)
        books = [book for book in brute.mixed_books(1042, 150) if (book.main(), 0) in brute.useful(book)]
        seen = [0, 0]
        for _ in range(250):
            one, other = pair_of_books(rng, books)
            if not one.deeds():
                continue
            deed = rng.choice(one.deeds())
            book = filled(one, deed, other)
            clear = isinstance(court(book, plain(book)), OwedTable)
            stages = met(one)
            done = any(step[1:3] == ("do", deed) and (name, step[0]) in stages and (name, step[3]) in stages
                       for name in one.names() for step in one.steps(name))
            second = court(other, plain(other))
            if done and not isinstance(second, OwedTable):
                self.assertFalse(clear)
            else:
                row = second.row((other.main(), 0)) if done else ()
                self.assertEqual(clear, isinstance(court(one, {**plain(one), deed: row}), OwedTable))
            seen[clear] += 1
        self.assertGreater(min(seen), 30)


class LimitsTest(unittest.TestCase):
    def test_at_the_limits(self):
        began = time.time()
        rng = random.Random(1033)
        for _ in range(10):
            book = full_book(rng)
            self.assertEqual(fault(self, behind, book, NEST, "new")[0], InvalidBook)
        one = court(tall((20, 17)), {"x": ("x",)})
        other = court(renamed(tall((20,)), "q"), {"x": ("x",)})
        table = behind_table(one, other, "new")
        self.assertEqual(len(table.row(("new", 0))), 19 * 16 + 19)
        self.assertTrue(is_sound_table(table))
        self.assertIsNotNone(either_table(one, other, "new"))
        one_x = one_course(20, (19,), *[do(n, "x", n + 1) for n in range(19)])
        table = filled_table(court(one_x, {"x": ("y",) * 19}), "x", court(renamed(tall((20, 2)), "q"), {"x": ("y",)}))
        self.assertEqual(len(table.row(("main", 0))), 19 * 19)
        self.assertLess(time.time() - began, 5)


if __name__ == "__main__":
    unittest.main()
