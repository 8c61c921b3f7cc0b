"""[22] to [25], and trails: tables of owed rows and two endings, as far as `court` returns them."""

import random
import time
import unittest

import brute
from samples import DEAD, NEST, ORDER, TORN, call, course, do, full_book, one_course, tall
from stillowed.books import Book
from stillowed.errors import NoEnding, Refused
from stillowed.lengths import check_lengths, chosen_rows, lengths, plain, ways
from stillowed.met import met
from stillowed.owed import OwedTable, TwoEndings, court, joined_row, looks
from stillowed.trails import trail_to

SIZE = 5


def joined(book, view, rows, stage, k):
    step = book.steps(stage[0])[k]
    row = view[step[2]] if step[1] == "do" else ()
    for part in brute.parts(book, stage, k):
        row += rows[part]
    return row


def first_bad_look(book, view, rows):
    for stage in sorted(rows):
        if brute.is_end(book, stage) and rows[stage] != ():
            return (stage, -1)
        for k in brute.leaving(book, stage):
            if all(part in rows for part in brute.parts(book, stage, k)):
                if not brute.quick_within(rows[stage], joined(book, view, rows, stage, k)):
                    return (stage, k)
    return None


def trail_end(book, trail):
    """The innermost stage to which a trail leads; checks each step of it."""
    good = brute.useful(book)
    stage = (book.main(), 0)
    for at, frame in enumerate(trail):
        for place, k in enumerate(frame):
            assert k in brute.leaving(book, stage)
            parts = brute.parts(book, stage, k)
            assert all(part in good for part in parts)
            entered = at < len(trail) - 1 and place == len(frame) - 1
            assert len(parts) == 2 or not entered
            stage = parts[0] if entered else parts[-1]
        assert frame or at == len(trail) - 1
    return stage


class LooksTest(unittest.TestCase):
    def test_joined_rows(self):
        rows = {("order", 2): ("q",), ("pay", 0): ("x", "y"), ("order", 1): ("r",)}
        view = {"take": ("t", "t"), "card": (), "stamp": (), "send": ()}
        self.assertEqual(joined_row(ORDER, view, rows, ("order", 1), 1), ("x", "y", "q"))
        self.assertEqual(joined_row(ORDER, view, rows, ("order", 0), 0), ("t", "t", "r"))

    def test_first_look_that_does_not_hold(self):
        book = one_course(3, (1, 2), do(0, "b", 1), do(0, "a", 2), do(1, "a", 2))
        rows = {("main", 0): ("a",), ("main", 1): (), ("main", 2): ()}
        self.assertEqual(looks(book, plain(book), rows), (("main", 0), 0))
        rows[("main", 0)] = ()
        self.assertIsNone(looks(book, plain(book), rows))
        rows[("main", 1)] = ("a",)
        self.assertEqual(looks(book, plain(book), rows), (("main", 1), -1))
        rows[("main", 0)] = ("a", "a")
        self.assertEqual(looks(book, plain(book), rows), (("main", 0), 0))
        self.assertIsNone(looks(book, plain(book), {}))
        turned = {("main", 1): ("z",), ("main", 0): ("q",)}
        self.assertEqual(looks(book, plain(book), turned), (("main", 0), 0))
        # A step with a part that is no key is no look.
        self.assertIsNone(looks(book, plain(book), {("main", 0): ("z", "z")}))
        self.assertEqual(looks(book, plain(book), {("main", 0): ("b", "z"), ("main", 1): ()}), (("main", 0), 0))

    def test_random_rows(self):
        rng = random.Random(131)
        for book in brute.mixed_books(131, 200):
            view = brute.random_view(rng, book)
            right = chosen_rows(book, view)
            for _ in range(5):
                rows = {stage: tuple(rng.choice("abx") for _ in range(rng.randint(0, 2))) if rng.random() < 0.2 else row
                        for stage, row in right.items() if rng.random() < 0.9}
                self.assertEqual(looks(book, view, rows), first_bad_look(book, view, rows))


class CourtTest(unittest.TestCase):
    def test_the_books_of_the_document(self):
        table = court(ORDER, plain(ORDER))
        self.assertEqual(table.owed((("pay", 0), ("order", 2))), ("card", "send"))
        torn = court(TORN, {"card": ("card",), "cash": ("cash",), "stamp": ("stamp",)})
        self.assertEqual((torn.one, torn.other), (("card",), ("cash", "stamp")))
        table = court(NEST, plain(NEST))
        self.assertEqual((table.rows[("main", 1)], table.ways[("main", 0)], table.ranks[("main", 1)]),
                         (("c", "b"), ("step", 1), 2))
        book = Book((course("main", 3, (2,), call(0, "y", 1), do(0, "z", 2), do(1, "z", 2)),
                     course("y", 3, (1, 2), do(0, "a", 1), do(0, "b", 2))))
        self.assertEqual(court(book, plain(book)).stage, ("y", 0))

    def test_random_books_and_views(self):
        rng = random.Random(132)
        seen = {OwedTable: 0, TwoEndings: 0}
        for book in brute.mixed_books(132, 500):
            if (book.main(), 0) not in brute.useful(book):
                continue
            for view in (plain(book), brute.random_view(rng, book, 1), brute.random_view(rng, book, 2)):
                verdict = court(book, view)
                seen[type(verdict)] += 1
                listed = brute.endings(book, SIZE, view)
                if isinstance(verdict, OwedTable):
                    self.check_table(book, view, verdict, listed)
                else:
                    self.check_two(book, view, verdict, listed)
        self.assertGreater(min(seen.values()), 50)

    def check_table(self, book, view, table, listed):
        self.assertEqual((table.book, table.view), (book, view))
        stages = list(met(book))
        for found, every in ((table.rows, chosen_rows(book, view)), (table.ways, ways(book, view))):
            self.assertEqual(found, {stage: every[stage] for stage in stages})
            self.assertEqual(list(found), stages)
        self.assertEqual(list(table.ranks), stages)
        self.assertIsNone(first_bad_look(book, view, table.rows))
        for stage in stages:
            row = table.rows[stage]
            self.assertTrue(all(brute.quick_within(row, other) for other in listed[stage]))
            self.assertTrue(len(row) > SIZE or row in listed[stage])
            if table.ways[stage] == ("end",):
                self.assertEqual(table.ranks[stage], 0)
            else:
                parts = brute.parts(book, stage, table.ways[stage][1])
                self.assertEqual(table.ranks[stage], 1 + max(table.ranks[part] for part in parts))

    def check_two(self, book, view, two, listed):
        self.assertTrue(check_lengths(book, view, two.lengths, two.ways))
        self.assertEqual((two.lengths, two.ways), (lengths(book, view), ways(book, view)))
        self.assertEqual(trail_end(book, two.trail), two.stage)
        rows = chosen_rows(book, view)
        stages = met(book)
        bad = first_bad_look(book, view, {stage: rows[stage] for stage in stages})
        self.assertEqual(two.stage, bad[0])
        self.assertEqual(two.one, rows[two.stage])
        self.assertEqual(two.other, joined(book, view, rows, *bad))
        self.assertFalse(brute.quick_within(two.one, two.other))
        if max(len(two.one), len(two.other)) <= SIZE:
            both = [row for row in listed[two.stage] if brute.quick_within(row, two.one) and brute.quick_within(row, two.other)]
            self.assertEqual(both, [])
            self.assertTrue({two.one, two.other} <= listed[two.stage])

    def test_only_met_stages_matter(self):
        # The stage 2 has two endings without one within both, but no run comes to it.
        book = one_course(4, (1, 3), do(0, "a", 1), do(2, "b", 3), do(2, "c", 3))
        self.assertIsInstance(court(book, plain(book)), OwedTable)
        self.assertNotIn(("main", 2), court(book, plain(book)).rows)
        book = one_course(4, (1, 3), do(0, "a", 1), do(2, "b", 3), do(2, "c", 3), do(0, "a", 2))
        self.assertEqual(court(book, plain(book)).stage, ("main", 2))

    def test_errors(self):
        with self.assertRaises(NoEnding) as caught:
            court(DEAD, plain(DEAD))
        self.assertEqual(caught.exception.stage, ("main", 0))
        huge = tall((8, 8, 8, 8, 7, 7, 7, 7))
        with self.assertRaises(Refused) as caught:
            court(huge, plain(huge))
        self.assertEqual(caught.exception.word, "long")
        # NoEnding goes before the length, and lengths of stages that are not met count, too.
        dead = Book((course("main", 1, (), do(0, "x", 0)),) + tall((20, 20, 20)).courses[:2] + (
            course("c", 10, (9,), *[do(n, "x", n + 1) for n in range(9)]),))
        with self.assertRaises(NoEnding):
            court(dead, {"x": ("x",) * 100})
        alive = Book((course("main", 1, (0,)),) + dead.courses[1:])
        with self.assertRaises(Refused):
            court(alive, {"x": ("x",) * 100})
        self.assertIsInstance(court(alive, {"x": ()}), OwedTable)

    def test_at_the_limits(self):
        began = time.time()
        rng = random.Random(133)
        for _ in range(20):
            book = full_book(rng)
            for view in (plain(book), {deed: () for deed in book.deeds()}):
                verdict = court(book, view)
                if isinstance(verdict, TwoEndings):
                    self.assertEqual(trail_end(book, verdict.trail), verdict.stage)
        self.assertLess(time.time() - began, 10)


class ObjectsTest(unittest.TestCase):
    def test_they_keep_their_arguments(self):
        table = OwedTable(ORDER, {"a": 1}, {("x", 0): ("r",)}, {("x", 0): ("end",)}, {("x", 0): 7})
        self.assertEqual(vars(table), {"book": ORDER, "view": {"a": 1}, "rows": {("x", 0): ("r",)},
                                       "ways": {("x", 0): ("end",)}, "ranks": {("x", 0): 7}})
        two = TwoEndings(("x", 0), None, {("x", 0): 3}, {("x", 0): ("end",)}, ("a",), ("b",))
        self.assertEqual(vars(two), {"stage": ("x", 0), "trail": None, "lengths": {("x", 0): 3},
                                     "ways": {("x", 0): ("end",)}, "one": ("a",), "other": ("b",)})

    def test_later_changes_have_no_effect(self):
        view = plain(ORDER)
        table = court(ORDER, view)
        view.clear()
        self.assertEqual(table.view, plain(ORDER))
        rows = {("order", 0): ("a",)}
        table = OwedTable(ORDER, {}, rows, {}, {})
        rows.clear()
        self.assertEqual(table.row(("order", 0)), ("a",))

    def test_rows_and_owed(self):
        table = OwedTable(ORDER, {}, {("order", 0): ("a",), ("pay", 1): ("b", "c")}, {}, {})
        self.assertEqual(table.row(("pay", 1)), ("b", "c"))
        self.assertEqual(table.owed((("pay", 1), ("order", 0), ("pay", 1))), ("b", "c", "a", "b", "c"))
        self.assertEqual(table.owed(()), ())
        for moment, stage in (((("order", 1),), ("order", 1)), ((("pay", 1), ("pay", 2), ("order", 3)), ("pay", 2))):
            with self.assertRaises(NoEnding) as caught:
                table.owed(moment)
            self.assertEqual(caught.exception.stage, stage)
        with self.assertRaises(NoEnding):
            table.row(("pay", 0))


class TrailsTest(unittest.TestCase):
    def test_trails(self):
        self.assertEqual(trail_to(ORDER, ("order", 0)), ((),))
        self.assertEqual(trail_to(ORDER, ("order", 2)), ((0, 1),))
        self.assertEqual(trail_to(ORDER, ("pay", 2)), ((0, 1), (1,)))
        for book in brute.mixed_books(134, 200):
            for stage in met(book):
                self.assertEqual(trail_end(book, trail_to(book, stage)), stage)

    def test_errors(self):
        for book, stage, error, value in ((DEAD, ("main", 0), NoEnding, ("main", 0)), (DEAD, ("main", 1), Refused, "unmet")):
            with self.assertRaises(error) as caught:
                trail_to(book, stage)
            self.assertEqual(list(vars(caught.exception).values()), [value])


if __name__ == "__main__":
    unittest.main()
