"""[28]: what single stages of any book owe."""

import random
import time
import unittest

import brute
from samples import DEAD, NEST, ORDER, TORN, call, course, do, full_book, one_course, tall
from stillowed.books import Book
from stillowed.errors import NoEnding, Refused
from stillowed.lengths import plain
from stillowed.met import met
from stillowed.owed import OwedTable, court
from stillowed.single import counter, lies_in_all, owed_at, owing, progress
from stillowed.texts import book_of, read_courses

SIZE = 6


def fitted(row, place, shown):
    for deed in shown:
        if place < len(row) and row[place] == deed:
            place += 1
    return place


def owed_row(rows):
    """The row among some that lies within all of them, None if there is none."""
    found = [row for row in rows if all(brute.quick_within(row, other) for other in rows)]
    return found[0] if found else None


class ProgressTest(unittest.TestCase):
    def test_small_books(self):
        row = ("a", "b", "b")
        self.assertEqual(progress(NEST, plain(NEST), row), {
            ("main", 0): (0, 1, 2, 3), ("main", 1): (0, 2, 3, 3), ("main", 2): (0, 2, 3, 3),
            ("main", 3): (0, 1, 2, 3), ("main", 4): (0, 1, 2, 3)})
        self.assertEqual(progress(NEST, plain(NEST), ()), {stage: (0,) for stage in NEST.stages()})
        self.assertEqual(progress(DEAD, plain(DEAD), ("a",)), {("main", 1): (1, 1), ("main", 2): (0, 1)})
        view = {"card": ("x", "y"), "cash": (), "stamp": ("y", "x", "q")}
        self.assertEqual(progress(TORN, view, ("x", "y"))[("main", 0)], (1, 2, 2))

    def test_against_endings(self):
        rng = random.Random(1)
        longer = 0
        for book in brute.mixed_books(3, 160):
            view = brute.random_view(rng, book, 2) if rng.random() < 0.6 else plain(book)
            found = brute.endings(book, SIZE, view)
            row = tuple(rng.choice("abxc") for _ in range(rng.randint(0, 5)))
            answer = progress(book, view, row)
            self.assertEqual(list(answer), sorted(brute.useful(book)))
            for stage in answer:
                self.assertEqual(lies_in_all(book, view, stage, row), answer[stage][0] == len(row))
                for place in range(len(row) + 1):
                    right = min([fitted(row, place, one) for one in found[stage]], default=len(row))
                    told = answer[stage][place]
                    self.assertEqual(told, self.by_steps(book, view, row, answer, stage, place))
                    self.assertLessEqual(told, right)
                    # Only an ending that is longer than those that were tried leads to a lesser place.
                    longer += told < right
        self.assertLess(longer, 10)

    def by_steps(self, book, view, row, answer, stage, place):
        """The least place to which an end or a step of the stage leads by what is told of the parts."""
        places = [place] if brute.is_end(book, stage) else []
        for k in brute.leaving(book, stage):
            parts = brute.parts(book, stage, k)
            if all(part in answer for part in parts):
                onto = fitted(row, place, view[book.steps(stage[0])[k][2]]) if len(parts) == 1 else answer[parts[0]][place]
                places.append(answer[parts[-1]][onto])
        return min(places)

    def test_counters_against_endings(self):
        rng = random.Random(2)
        for book in brute.mixed_books(5, 160):
            view = brute.random_view(rng, book, 2) if rng.random() < 0.6 else plain(book)
            found = brute.endings(book, SIZE, view)
            row = tuple(rng.choice("abx") for _ in range(rng.randint(0, 5)))
            for stage in brute.useful(book):
                without = [one for one in found[stage] if not brute.quick_within(row, one)]
                answer = counter(book, view, stage, row)
                if answer is None:
                    self.assertEqual(without, [])
                elif len(answer) > SIZE:
                    self.assertEqual(without, [])
                    self.assertFalse(brute.quick_within(row, answer))
                else:
                    self.assertIn(answer, without)
                    self.assertEqual(len(answer), min(len(one) for one in without))

    def test_errors(self):
        for function in (lies_in_all, counter):
            with self.assertRaises(NoEnding) as caught:
                function(DEAD, plain(DEAD), ("main", 0), ("a",) * 41)
            self.assertEqual(caught.exception.stage, ("main", 0))
        self.assertTrue(lies_in_all(NEST, plain(NEST), ("main", 0), ("c",)))
        self.assertFalse(lies_in_all(NEST, plain(NEST), ("main", 0), ("c", "c")))

    def test_rows_of_40_and_41_deeds(self):
        loop = one_course(2, (1,), do(0, "a", 0), do(0, "b", 1))
        self.assertEqual(counter(loop, plain(loop), ("main", 0), ("a",) * 40), ("b",))
        self.assertIsNone(counter(one_course(1, (0,)), {}, ("main", 0), ()))
        with self.assertRaises(Refused) as caught:
            counter(loop, plain(loop), ("main", 0), ("a",) * 41)
        self.assertEqual(caught.exception.word, "long")
        with self.assertRaises(Refused):
            counter(loop, plain(loop), ("main", 1), ("b",) * 41)
        self.assertFalse(lies_in_all(loop, plain(loop), ("main", 0), ("a",) * 400))

    def test_counters_of_400_deeds(self):
        chain = Book((course("m", 2, (1,), do(0, "a", 1)),))
        for many, right in ((400, True), (401, False)):
            view = {"a": ("x",) * many}
            self.assertIsNone(counter(chain, view, ("m", 0), ("x",)))
            if right:
                self.assertEqual(counter(chain, view, ("m", 0), ("y",)), ("x",) * many)
            else:
                with self.assertRaises(Refused) as caught:
                    counter(chain, view, ("m", 0), ("y",))
                self.assertEqual(caught.exception.word, "long")
        # Only long endings do without the row; nothing is refused where all hold it.
        both = Book((course("m", 2, (1,), do(0, "a", 1), do(0, "b", 1)),))
        view = {"a": ("y",), "b": ("x",) * 500}
        with self.assertRaises(Refused):
            counter(both, view, ("m", 0), ("y",))
        self.assertEqual(counter(both, view, ("m", 0), ("x",)), ("y",))
        self.assertIsNone(counter(both, {"a": ("y",), "b": ("y",) * 500}, ("m", 0), ("y",)))
        book = tall((3, 3, 3, 3, 3, 3, 3, 3))
        self.assertEqual(counter(book, plain(book), ("a", 0), ("y",)), ("x",) * 256)
        self.assertIsNone(counter(book, plain(book), ("a", 0), ("x",) * 40))


class OwedAtTest(unittest.TestCase):
    def test_small_books(self):
        torn = book_of(read_courses("main: [(y)] z\ny: a | b"))
        view = plain(torn)
        self.assertEqual(owed_at(torn, view, (("main", 0),)), ("z",))
        self.assertIsNone(owed_at(torn, view, (("y", 0), ("main", 1))))
        self.assertEqual(owed_at(torn, view, (("y", 1), ("main", 1))), ("z",))
        self.assertEqual(owing(torn, view), {("main", 0): ("z",), ("main", 1): ("z",), ("main", 2): (),
                                             ("y", 1): (), ("y", 2): ()})
        self.assertEqual(owed_at(ORDER, plain(ORDER), ()), ())
        self.assertEqual(owed_at(ORDER, plain(ORDER), (("order", 1), ("order", 1), ("pay", 0))),
                         ("card", "send", "card", "send", "card"))

    def test_against_tables_and_endings(self):
        rng = random.Random(4)
        seen = set()
        for book in brute.mixed_books(15, 200):
            view = brute.random_view(rng, book, 2) if rng.random() < 0.6 else plain(book)
            found = brute.endings(book, SIZE, view)
            rows = {stage: owed_row(found[stage]) for stage in brute.useful(book) if found[stage]}
            answer = owing(book, view)
            self.assertEqual(list(answer), sorted(answer))
            for stage in met(book):
                if stage in rows:
                    self.assertEqual(answer.get(stage), rows[stage])
                    seen.add(rows[stage] is None)
            stages = sorted(rows)
            for _ in range(4 if stages else 0):
                moment = tuple(rng.choice(stages) for _ in range(rng.randint(0, 3)))
                told = [rows[stage] for stage in moment]
                right = None if None in told else sum(told, ())
                self.assertEqual(owed_at(book, view, moment), right)
            if (book.main(), 0) in brute.useful(book):
                table = court(book, view)
                self.assertEqual(isinstance(table, OwedTable), list(answer) == list(met(book)))
                if isinstance(table, OwedTable):
                    self.assertEqual(answer, table.rows)
        self.assertEqual(seen, {True, False})

    def test_errors(self):
        with self.assertRaises(NoEnding) as caught:
            owed_at(DEAD, {"a": ("a",) * 30000}, (("main", 1), ("main", 0), ("main", 0)))
        self.assertEqual(caught.exception.stage, ("main", 0))
        self.assertEqual(owing(DEAD, plain(DEAD)), {})
        chain = one_course(2, (1,), do(0, "a", 1))
        self.assertEqual(owed_at(chain, {"a": ("x",) * 400}, (("main", 0),) * 2), ("x",) * 800)
        self.assertEqual(len(owing(chain, {"a": ("x",) * 400})[("main", 0)]), 400)
        for many in (401, 20001):
            view = {"a": ("x",) * many}
            for function, told in ((owed_at, ((("main", 0),),)), (owing, ())):
                with self.assertRaises(Refused) as caught:
                    function(chain, view, *told)
                self.assertEqual(caught.exception.word, "long")
        self.assertEqual(owed_at(chain, {"a": ("x",) * 401}, (("main", 1),)), ())
        with self.assertRaises(Refused):
            owed_at(chain, {"a": ("x",) * 20001}, (("main", 1),))
        # A long row of a stage that is not met is no matter for `owing`.
        apart = Book((course("m", 1, (0,)), course("n", 2, (1,), do(0, "a", 1))))
        self.assertEqual(owing(apart, {"a": ("x",) * 401}), {("m", 0): ()})


class LimitsTest(unittest.TestCase):
    def test_books_at_the_limits(self):
        rng = random.Random(6)
        begun = time.time()
        for call_odds in (0.2, 0.6):
            book = full_book(rng, call_odds)
            view = brute.random_view(rng, book, 3)
            words = book.deeds()
            row = tuple(rng.choice(words) for _ in range(400))
            self.assertEqual(len(progress(book, plain(book), row)[("a", 0)]), 401)
            owing(book, view)
            for stage in sorted(brute.useful(book))[:10]:
                counter(book, view, stage, row[:40])
        cliffs = list(tall((20, 20)).courses)
        name, many, ends, steps = cliffs[1]
        torn = Book((cliffs[0], (name, many, ends, steps + (do(0, "y", 1),)),))
        self.assertEqual(len(owing(torn, plain(torn))), 20)
        self.assertLess(time.time() - begun, 20)

    def test_calls_in_rings(self):
        book = Book((course("m", 3, (2,), call(0, "m", 1), do(0, "h", 2), do(1, "a", 2)),))
        self.assertEqual(progress(book, plain(book), ("h", "a", "a"))[("m", 0)], (1, 1, 2, 3))
        self.assertEqual(counter(book, plain(book), ("m", 0), ("h", "a", "a")), ("h",))
        self.assertEqual(counter(book, {"h": ("h",), "a": ()}, ("m", 1), ("h",)), ())


if __name__ == "__main__":
    unittest.main()
