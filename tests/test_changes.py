"""[81] to [84]: steps barred, rows lost, and steps and ends put in."""

import random
import time
import unittest

import brute
from samples import DEAD, NEST, ORDER, call, course, do, full_book, one_course
from sound import is_sound_table
from stillowed.books import Book
from stillowed.changes import barred, bar_out, lost, needed, new_numbers, old_run, spare, with_ends, with_steps
from stillowed.errors import InvalidMove, NoEnding
from stillowed.lengths import plain
from stillowed.moments import run_moments
from stillowed.owed import OwedTable, court
from stillowed.rows import within
from stillowed.single import owed_at
from tables import clear_tables, looped_tables, wider_tables

SIZE = 4
NO_NAMES = [("main", 4), ("main", -1), ("main", True), ("main", 0.0), ("main", None), ("x", 0), (None, 0), (["main"], 0),
            ["main", 0], ("main",), ("main", 0, 0), "main", 7, None, ()]


def wrong_place(case, function, *told):
    with case.assertRaises(InvalidMove) as caught:
        function(*told)
    return caught.exception.at


def first_wrong(value):
    """The first wrong place of an odd value, the first item of which may be the pair ("main", 0)."""
    if not isinstance(value, tuple) or value == ():
        return -1
    return 1 if value[0] == ("main", 0) else 0


def random_bars(rng, book, most=3):
    names = [(name, k) for name in book.names() for k in range(len(book.steps(name)))]
    return tuple(rng.sample(names, rng.randint(0, min(most, len(names)))))


class BarredTest(unittest.TestCase):
    def test_small_books(self):
        book = barred(NEST, (("main", 2), ("main", 0)))
        self.assertEqual(book, one_course(5, (3, 4), do(0, "c", 4), do(2, "b", 3)))
        self.assertEqual(barred(NEST, ()), NEST)
        self.assertEqual(list(new_numbers(NEST, (("main", 2), ("main", 0))).items()),
                         [(("main", 1), ("main", 0)), (("main", 3), ("main", 1))])
        self.assertEqual(list(new_numbers(ORDER, (("order", 0), ("pay", 1))).items()), [
            (("order", 1), ("order", 0)), (("order", 2), ("order", 1)), (("pay", 0), ("pay", 0)), (("pay", 2), ("pay", 1))])

    def test_runs(self):
        bars = (("main", 0),)
        self.assertEqual(old_run(NEST, bars, (("do", 0), ("leave",))), (("do", 1), ("leave",)))
        self.assertEqual(old_run(NEST, bars, ()), ())
        bars = (("order", 0), ("pay", 0))
        book = Book((course("order", 3, (2,), do(0, "h", 0), call(0, "pay", 1), do(1, "send", 2)),
                     course("pay", 3, (1,), do(0, "h", 1), do(0, "card", 2), do(2, "stamp", 1))))
        run = (("call", 0), ("do", 0), ("do", 1), ("leave",), ("do", 1), ("leave",))
        self.assertEqual(old_run(book, bars, run), (("call", 1), ("do", 1), ("do", 2), ("leave",), ("do", 2), ("leave",)))

    def test_errors(self):
        table = court(NEST, plain(NEST))
        functions = (lambda bars: barred(NEST, bars), lambda bars: new_numbers(NEST, bars), lambda bars: lost(table, bars),
                     lambda bars: old_run(NEST, bars, None), lambda bars: bar_out(table, bars))
        for function in functions:
            for value in (None, [], {}, "main", 3, [("main", 0)], {("main", 0): 1}):
                self.assertEqual(wrong_place(self, function, value), -1)
            for value in NO_NAMES:
                self.assertEqual(wrong_place(self, function, (value,)), 0)
                self.assertEqual(wrong_place(self, function, (("main", 3), ("main", 0), value, value)), 2)
            self.assertEqual(wrong_place(self, function, (("main", 3), ("main", 0), ("main", 3), None)), 2)

    def test_any_values(self):
        for value in brute.ODD_VALUES:
            with self.assertRaises(InvalidMove) as caught:
                barred(NEST, value) if value != () else barred(NEST, None)
            self.assertEqual(caught.exception.at, first_wrong(value))
            with self.assertRaises(InvalidMove):
                old_run(NEST, (), value if value != () else None)

    def test_errors_of_runs(self):
        for run, at in ((None, -1), ([], -1), ((("do", 1),), 0), ((("do", 0), ("do", 0)), 1), ((("do", 0), ("leave",), ("leave",)), 2)):
            self.assertEqual(wrong_place(self, old_run, NEST, (("main", 0),), run), at)
        with self.assertRaises(NoEnding) as caught:
            old_run(NEST, (("main", 1),), None)
        self.assertEqual(caught.exception.stage, ("main", 0))
        with self.assertRaises(NoEnding):
            old_run(DEAD, (), ())

    def test_random_books_and_runs(self):
        rng = random.Random(811)
        made = 0
        for book in brute.mixed_books(811, 200):
            bars = random_bars(rng, book)
            without = barred(book, bars)
            numbers = new_numbers(book, bars)
            self.assertEqual(list(numbers), sorted(numbers))
            for name in book.names():
                left = [k for k in range(len(book.steps(name))) if (name, k) not in bars]
                self.assertEqual(without.steps(name), tuple(book.steps(name)[k] for k in left))
                self.assertEqual([numbers[(name, k)] for k in left], [(name, at) for at in range(len(left))])
            self.assertEqual(len(numbers), sum(len(without.steps(name)) for name in without.names()))
            self.assertEqual([c[:3] for c in without.courses], [c[:3] for c in book.courses])
            if (book.main(), 0) in brute.useful(without):
                for run, moment, deeds in rng.sample(found := brute.runs(without, ((book.main(), 0),), 4, True), min(5, len(found))):
                    old = old_run(book, bars, run)
                    # With the old numbers it is a run of the book through the same moments.
                    self.assertEqual(run_moments(book, old), run_moments(without, run))
                    self.assertEqual(len(old), len(run))
                    made += len(run)
        self.assertGreater(made, 300)

    def test_long_runs(self):
        book = one_course(2, (0,), do(0, "h", 1), do(0, "a", 0), call(0, "main", 0))
        run = (("do", 0),) * 50000 + (("call", 1),) * 50000
        began = time.time()
        self.assertEqual(old_run(book, (("main", 0),), run), (("do", 1),) * 50000 + (("call", 2),) * 50000)
        self.assertLess(time.time() - began, 5)

    def test_barring_only_adds(self):
        rng = random.Random(821)
        seen = 0
        for book in brute.mixed_books(821, 100) + [table.book for table in wider_tables(821, 150)]:
            bars = random_bars(rng, book, 2)
            without = barred(book, bars)
            if (book.main(), 0) not in brute.useful(without):
                continue
            for moment in list(brute.reachable(without, 3, 30))[:8]:
                before, after = owed_at(book, plain(book), moment), owed_at(without, plain(book), moment)
                if before is not None and after is not None:
                    self.assertTrue(within(before, after))
                    seen += before != after
        self.assertGreater(seen, 10)


class LostTest(unittest.TestCase):
    def test_small_books(self):
        table = court(ORDER, plain(ORDER))
        self.assertEqual(lost(table, ()), ())
        self.assertEqual(lost(table, (("pay", 0),)), (("order", 0), ("order", 1), ("pay", 0)))
        self.assertEqual(lost(table, (("pay", 1),)), ())
        self.assertEqual(needed(table), (("order", 0), ("order", 1), ("order", 2), ("pay", 0), ("pay", 2)))
        self.assertEqual(spare(table), (("pay", 1),))
        # Either of two steps by the same deed keeps the row.
        book = one_course(3, (1, 2), do(0, "a", 1), do(0, "a", 2))
        table = court(book, plain(book))
        self.assertEqual((needed(table), spare(table)), ((), (("main", 1),)))
        self.assertEqual(lost(table, (("main", 1), ("main", 0))), (("main", 0),))

    def test_a_ring_keeps_no_row(self):
        book = one_course(3, (2,), do(0, "h", 1), do(1, "h", 0), do(0, "a", 2), do(1, "a", 2))
        table = court(book, {"a": ("a",), "h": ()})
        self.assertEqual(lost(table, (("main", 2), ("main", 3))), (("main", 0), ("main", 1)))
        self.assertEqual(lost(table, (("main", 2), ("main", 0))), (("main", 0),))
        self.assertEqual((needed(table), spare(table)), ((), (("main", 0), ("main", 1))))

    def test_random_tables(self):
        rng = random.Random(831)
        losses = 0
        for table in clear_tables(831, 60) + looped_tables(831, 20) + wider_tables(831, 20):
            book = table.book
            for _ in range(3):
                bars = random_bars(rng, book)
                listed = brute.endings(barred(book, bars), SIZE, table.view)
                found = lost(table, bars)
                self.assertEqual(list(found), sorted(found))
                self.assertTrue(set(found) <= set(table.rows))
                for stage, row in table.rows.items():
                    if len(row) <= SIZE:
                        self.assertEqual(stage in found, row not in listed[stage])
                losses += len(found)
            names = [(name, k) for name in book.names() for k in range(len(book.steps(name)))]
            self.assertEqual(needed(table), tuple(sorted(name for name in names if lost(table, (name,)))))
            self.assertEqual(spare(table), tuple(sorted(
                (stage[0], k) for stage in table.rows for k in brute.leaving(book, stage) if table.ways[stage] != ("step", k))))
            self.assertEqual(lost(table, spare(table)), ())
        self.assertGreater(losses, 200)

    def test_without_spare_steps_there_is_one_ending(self):
        for table in clear_tables(832, 60) + looped_tables(832, 20):
            listed = brute.endings(barred(table.book, spare(table)), SIZE, table.view)
            for stage, row in table.rows.items():
                self.assertEqual(listed[stage], {row} if len(row) <= SIZE else set())


class WithStepsTest(unittest.TestCase):
    def test_small_books(self):
        step = do(1, "b", 0)
        self.assertEqual(with_steps(NEST, (("main", step), ("main", call(4, "main", 4)))),
                         one_course(5, (3, 4), *NEST.steps("main"), step, call(4, "main", 4)))
        self.assertEqual(with_steps(ORDER, ()), ORDER)
        book = with_steps(ORDER, (("pay", do(3, "x", 3)), ("order", call(0, "order", 3)), ("pay", do(3, "w", 3))))
        self.assertEqual(book.steps("pay")[3:], (do(3, "x", 3), do(3, "w", 3)))
        self.assertEqual(book.steps("order")[3:], (call(0, "order", 3),))
        self.assertEqual(with_ends(NEST, (("main", 2), ("main", 0))), one_course(5, (0, 2, 3, 4), *NEST.steps("main")))
        self.assertEqual(with_ends(ORDER, ()), ORDER)

    def test_no_tuples(self):
        for function in (with_steps, with_ends):
            for value in brute.ODD_VALUES:
                if not isinstance(value, tuple):
                    self.assertEqual(wrong_place(self, function, NEST, value), -1)
                elif value:
                    at = first_wrong(value) if function is with_ends else 0
                    self.assertEqual(wrong_place(self, function, NEST, value), at)

    def test_wrong_items(self):
        right = ("main", do(1, "b", 0))
        wrong = [("x", do(1, "b", 0)), ("main", do(5, "b", 0)), ("main", do(-1, "b", 0)), ("main", do(True, "b", 0)),
                 ("main", do(1, "b", 5)), ("main", do(1, "b", -1)), ("main", do(1, "b", 0.0)), ("main", do(1, "B", 0)),
                 ("main", do(1, "", 0)), ("main", do(1, "abcdef", 0)), ("main", do(1, None, 0)), ("main", (1, "go", "b", 0)),
                 ("main", (1, ["do"], "b", 0)), ("main", call(1, "x", 0)), ("main", call(1, ["main"], 0)), ("main", (1, "do", "b")),
                 ("main", [1, "do", "b", 0]), ("main", do(1, "b", 0) + (0,)), ("main", None), ("main",), ("main", do(1, "b", 0), 0),
                 ["main", do(1, "b", 0)], (None, do(1, "b", 0)), (["main"], do(1, "b", 0)), None, 3, "main", right[1]]
        for item in wrong + [("main", do(2, "b", 3)), ("main", call(1, "main", 2)), right]:
            self.assertEqual(wrong_place(self, with_steps, NEST, (right, item, None)), 1, item)
        # What the course has already, and what an earlier item has brought.
        self.assertEqual(wrong_place(self, with_steps, NEST, (("main", do(0, "a", 1)),)), 0)
        self.assertEqual(wrong_place(self, with_steps, NEST, (right, ("main", do(1, "b", 1)), right)), 2)
        for item in (("main", 3), ("main", 4), ("main", 5), ("main", -1), ("main", False), ("main", 1.0), ("x", 0), ("main",),
                     ("main", 0, 0), ["main", 0], None, ("main", 2)):
            self.assertEqual(wrong_place(self, with_ends, NEST, (("main", 2), item, None)), 1, item)

    def test_a_thirteenth_deed(self):
        letters = "abcdefghijkl"
        book = one_course(2, (1,), *[do(0, letter, 1) for letter in letters[:10]])
        items = (("main", do(1, "k", 1)), ("main", do(1, "a", 1)), ("main", do(1, "l", 1)), ("main", do(1, "k", 0)))
        self.assertEqual(len(with_steps(book, items).deeds()), 12)
        for item in (("main", do(1, "m", 1)), ("main", do(0, "zz", 0))):
            self.assertEqual(wrong_place(self, with_steps, book, items + (item, None)), 4)

    def test_random_books(self):
        rng = random.Random(841)
        for book in brute.mixed_books(841, 100):
            bars = random_bars(rng, book, 5)
            put = tuple((name, book.steps(name)[k]) for name, k in bars)
            again = with_steps(barred(book, bars), put)
            for name in book.names():
                left = [step for k, step in enumerate(book.steps(name)) if (name, k) not in bars]
                self.assertEqual(again.steps(name), tuple(left) + tuple(step for course_, step in put if course_ == name))
                self.assertEqual(again.ends(name), book.ends(name))
            stages = [stage for stage in book.stages() if not book.is_end(stage)]
            chosen = tuple(rng.sample(stages, min(2, len(stages))))
            ended = with_ends(book, chosen)
            self.assertEqual([stage for stage in book.stages() if ended.is_end(stage)],
                             [stage for stage in book.stages() if book.is_end(stage) or stage in chosen])
            self.assertEqual([c[3] for c in ended.courses], [c[3] for c in book.courses])


class LimitsTest(unittest.TestCase):
    def test_at_the_limits(self):
        began = time.time()
        rng = random.Random(842)
        for _ in range(10):
            book = full_book(rng)
            table = court(book, {deed: () for deed in book.deeds()})
            self.assertIsInstance(table, OwedTable)
            self.assertTrue(is_sound_table(table))
            self.assertEqual(lost(table, spare(table)), ())
            needed(table)
            names = [(name, k) for name in book.names() for k in range(15)]
            self.assertEqual(with_steps(barred(book, tuple(names)), tuple((name, book.steps(name)[k]) for name, k in names)), book)
        self.assertLess(time.time() - began, 10)


if __name__ == "__main__":
    unittest.main()
