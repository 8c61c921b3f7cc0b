"""[59], [60]: what all endings of a moment hold, and greatest rows within all of some rows."""

import itertools
import random
import time
import unittest

import brute
from brute import quick_within
from samples import NEST, ORDER, TORN, do, one_course
from stillowed.errors import NoEnding, Refused
from stillowed.held import check_stops, fewest, held, held_of, holds_in_all, lacking, lacking_all, shares, stops
from stillowed.lengths import plain
from stillowed.lists import lists, lists_by, lists_of, row_products
from stillowed.rows import common_all
from stillowed.texts import book_of, read_courses

WIDE = book_of(read_courses("m: (x) (y) c\nx: a | b a | b b\ny: a a | c | b a b"))
TABLE = lists(WIDE, plain(WIDE))


def random_tables(seed, many):
    """Tuples (table, moment) with moments of some stages."""
    rng = random.Random(seed)
    for book in brute.mixed_books(seed, many):
        view = plain(book) if rng.random() < 0.5 else brute.random_view(rng, book, 2)
        try:
            table = lists(book, view, most=12, longest=8)
        except Refused:
            continue
        stages = sorted(table)
        for _ in range(3 if stages else 0):
            yield table, tuple(rng.choice(stages) for _ in range(rng.randint(0, 3)))


def random_row(rng, most, words="abc"):
    return tuple(rng.choice(words) for _ in range(rng.randint(0, most)))


def greatest_common(rows):
    """The greatest rows within all of some rows, by trying all that lie within the shortest one."""
    shortest = min(rows, key=len)
    found = {row for many in range(len(shortest) + 1) for row in itertools.combinations(shortest, many)
             if all(quick_within(row, other) for other in rows)}
    return brute.in_order([row for row in found if not any(row != one and quick_within(row, one) for one in found)])


class MomentTest(unittest.TestCase):
    def test_small_books(self):
        moment = (("y", 0), ("m", 2))
        self.assertEqual(shares(TABLE, moment, ("a", "c")), (0, 0))
        self.assertEqual(shares(TABLE, moment, ("c", "a")), (0, 1))
        self.assertEqual(shares(TABLE, (("x", 0), ("y", 0), ("m", 2)), ("c",)), (0, 0, 1))
        self.assertTrue(holds_in_all(TABLE, moment, ("c",)))
        self.assertFalse(holds_in_all(TABLE, moment, ("a",)))
        self.assertEqual(lacking(TABLE, moment, ("a",)), ("c", "c"))
        self.assertIsNone(lacking(TABLE, moment, ("c",)))
        self.assertIsNone(lacking(TABLE, (), ()))
        self.assertEqual(lacking(TABLE, (), ("a",)), ())
        self.assertEqual(fewest(TABLE, (("x", 0), ("y", 0), ("m", 2)), "a"), 0)
        self.assertEqual(fewest(TABLE, (("x", 0), ("m", 2), ("m", 2)), "c"), 2)
        self.assertEqual(fewest(TABLE, (), "c"), 0)
        self.assertEqual(fewest(TABLE, (("m", 2),), "zz"), 0)
        self.assertEqual(held_of(TABLE, (("x", 0), ("m", 2))), (("c",),))
        self.assertEqual(held_of(TABLE, ()), ((),))

    def test_against_all_least_endings(self):
        rng = random.Random(1)
        seen = set()
        for table, moment in random_tables(3, 160):
            every = lists_of(table, moment)
            for row in [random_row(rng, 4) for _ in range(4)] + [rng.choice(every)]:
                right = all(quick_within(row, one) for one in every)
                seen.add(right)
                self.assertIs(holds_in_all(table, moment, row), right)
                parts = shares(table, moment, row)
                self.assertEqual(len(parts), len(moment))
                self.assertEqual(sum(parts) == len(row), right)
                left = row
                for stage, share in zip(moment, parts):
                    for many in range(len(left) + 1):
                        self.assertEqual(many <= share, all(quick_within(left[:many], one) for one in table[stage]))
                    left = left[share:]
                found = lacking(table, moment, row)
                self.assertEqual(found is None, right)
                if found is not None:
                    self.assertIn(found, row_products([table[stage] for stage in moment]))
                    self.assertFalse(quick_within(row, found))
                    first = []
                    left = row
                    for stage, share in zip(moment, parts):
                        first.extend([one for one in table[stage] if not quick_within(left[:share + 1], one)
                                      or len(left) == share][0])
                        left = left[share:]
                    self.assertEqual(found, tuple(first))
            for deed in "abcx":
                self.assertEqual(fewest(table, moment, deed), min(one.count(deed) for one in every))
            self.assertEqual(held_of(table, moment), greatest_common(every))
        self.assertEqual(seen, {True, False})

    def test_lacking_all(self):
        rng = random.Random(2)
        seen = set()
        for table, moment in random_tables(5, 160):
            every = lists_of(table, moment)
            rows = [random_row(rng, 3) for _ in range(rng.randint(0, 4))]
            without = [one for one in every if not any(quick_within(row, one) for row in rows)]
            found = lacking_all(table, moment, rows)
            seen.add(found is None)
            if found is None:
                self.assertEqual(without, [])
            else:
                self.assertIn(found, without)
        self.assertEqual(seen, {True, False})
        self.assertIsNone(lacking_all(TABLE, (("x", 0),), [()]))
        self.assertEqual(lacking_all(TABLE, (), [("a",)]), ())
        self.assertIsNone(lacking_all(TABLE, (), [()]))
        self.assertEqual(lacking_all(TABLE, (("x", 0),), [("a",)]), ("b", "b"))
        self.assertIsNone(lacking_all(TABLE, (("x", 0),), [("a",), ("b", "b")]))

    def test_40_stages(self):
        rng = random.Random(3)
        begun = time.time()
        words = "abcd"
        rows = brute.in_order([random_row(rng, 12, words) for _ in range(90)])
        rows = tuple(row for row in rows if not any(row != one and quick_within(one, row) for one in rows))[:60]
        table = {("m", 0): rows, ("m", 1): rows[1::2] or rows}
        moment = tuple(("m", rng.randrange(2)) for _ in range(40))
        asked = [random_row(rng, 8, words)[:7] + ("a",) for _ in range(4)]
        found = lacking_all(table, moment, asked)
        if found is not None:
            self.assertFalse(any(quick_within(row, found) for row in asked))
        found = lacking_all(table, moment[:2], asked)
        if found is not None:
            self.assertFalse(any(quick_within(row, found) for row in asked))
        shares(table, moment, random_row(rng, 400, words))
        self.assertLess(time.time() - begun, 15)

    def test_missing_stages(self):
        moment = (("m", 2), ("zz", 0), ("q", 1))
        for function, more in ((shares, (("a",),)), (holds_in_all, (("a",),)), (lacking, (("a",),)),
                               (lacking_all, ([("a",)],)), (fewest, ("a",)), (held_of, ())):
            with self.assertRaises(NoEnding) as caught:
                function(TABLE, moment, *more)
            self.assertEqual(caught.exception.stage, ("zz", 0))

    def test_lists_by_views(self):
        table = lists_by(TABLE, {"a": ("p",), "b": ("p",), "c": ()})
        self.assertEqual(held_of(table, (("x", 0), ("y", 0))), (("p",),))
        self.assertEqual(lacking(table, (("x", 0),), ("p", "p")), ("p",))


class HeldTest(unittest.TestCase):
    def test_held(self):
        rows = [("a", "b", "c"), ("b", "a", "c"), ("a", "b", "c")]
        self.assertEqual(held(rows), (("a", "c"), ("b", "c")))
        self.assertEqual(held((("a",) * 12, ("a",) * 99)), (("a",) * 12,))
        with self.assertRaises(Refused) as caught:
            held((("a",) * 13, ("a",) * 99))
        self.assertEqual(caught.exception.word, "long")
        self.assertEqual(held(((),)), ((),))

    def test_refusals_in_order(self):
        line = {("a", 0): (("a",) * 12,), ("b", 0): (("a",) * 13,), ("c", 0): (("c", "d"), ("d", "c")),
                ("e", 0): (("e", "a"), ("a",) * 13)}
        self.assertEqual(held_of(line, (("a", 0),) * 5), (("a",) * 60,))
        self.assertEqual(held_of(line, (("e", 0),)), (("a",),))
        self.assertEqual(len(held_of(line, (("c", 0),) * 10)), 1024)
        for moment, word in (((("b", 0),), "long"), ((("c", 0),) * 11, "wide"), ((("c", 0),) * 11 + (("b", 0),), "long"),
                             ((("b", 0),) + (("c", 0),) * 11, "long")):
            with self.assertRaises(Refused) as caught:
                held_of(line, moment)
            self.assertEqual(caught.exception.word, word)
        with self.assertRaises(NoEnding):
            held_of(line, (("b", 0), ("x", 0)))

    def test_what_is_held_is_kept(self):
        # Behind a deed, what was held without its longest beginning within the deed's row is still held.
        for book in (ORDER, NEST, TORN, WIDE):
            table = lists(book, plain(book))
            for moment in brute.reachable(book, 4, 60):
                if not moment:
                    continue
                for move in brute.let(book, brute.useful(book), moment):
                    after = brute.behind(book, moment, move)
                    for row in held_of(table, moment):
                        deed = brute.deed_of(book, moment, move)
                        left = row[1:] if deed and row[:1] == deed else row
                        self.assertTrue(holds_in_all(table, after, left))


class StopsTest(unittest.TestCase):
    def test_small_rows(self):
        rows = (("a", "b", "c"), ("b", "a", "c"))
        self.assertEqual(stops(rows, ("a", "c")), (
            (0, "a", 0), (0, "b", 0), (0, "c", 0), (1, "a", 0), (1, "b", 1), (1, "c", 0),
            (2, "a", 0), (2, "b", 0), (2, "c", 0)))
        self.assertEqual(stops(rows, ("c",)), None)
        self.assertEqual(stops(rows, ("a", "b")), None)
        self.assertEqual(stops((("a",),), ("a",)), ((0, "a", 0), (1, "a", 0)))
        self.assertEqual(stops((("a",), ("b",)), ()), ((0, "a", 1), (0, "b", 0)))
        self.assertEqual(stops(((),), ()), ())
        self.assertIsNone(stops(((),), ("a",)))

    def right_stops(self, rows, row):
        if not all(quick_within(row, one) for one in rows):
            return None
        found = []
        for place in range(len(row) + 1):
            for deed in sorted({deed for one in rows for deed in one}):
                longer = row[:place] + (deed,) + row[place:]
                numbers = [number for number, one in enumerate(rows) if not quick_within(longer, one)]
                if not numbers:
                    return None
                found.append((place, deed, numbers[0]))
        return tuple(found)

    def test_against_slow_answers(self):
        rng = random.Random(5)
        for _ in range(500):
            rows = [random_row(rng, 7) for _ in range(rng.randint(1, 4))]
            greatest = greatest_common(rows)
            for row in list(greatest) + [random_row(rng, 3), greatest[0][1:]]:
                found = stops(rows, row)
                self.assertEqual(found, self.right_stops(rows, row))
                self.assertEqual(found is None, row not in greatest)
                if found is not None:
                    self.assertTrue(check_stops(rows, row, found))

    def test_papers(self):
        rng = random.Random(6)
        for _ in range(200):
            rows = [random_row(rng, 6) for _ in range(rng.randint(1, 4))]
            row = rng.choice(greatest_common(rows))
            paper = stops(rows, row)
            for at, (place, deed, number) in enumerate(paper):
                longer = row[:place] + (deed,) + row[place:]
                for other in range(-2, len(rows) + 2):
                    right = 0 <= other < len(rows) and not quick_within(longer, rows[other])
                    spoilt = paper[:at] + ((place, deed, other),) + paper[at + 1:]
                    self.assertIs(check_stops(rows, row, spoilt), right)
                for wrong in (((place + 1, deed, number),), ((place, "q", number),), ((-1, deed, number),), (),
                              ((place, deed, number),) * 2):
                    self.assertIs(check_stops(rows, row, paper[:at] + wrong + paper[at + 1:]), False)
            self.assertIs(check_stops(rows, row + ("q",), paper), False)
            if row:
                self.assertIs(check_stops(rows, row[1:], stops([row[1:]], row[1:])), False)

    def test_many_long_rows(self):
        rng = random.Random(7)
        begun = time.time()
        words = "abcdefghijkl"
        row = tuple(rng.choice(words) for _ in range(200))
        rows = []
        for _ in range(500):
            longer = list(row)
            for _ in range(40):
                longer.insert(rng.randint(0, len(longer)), rng.choice(words))
            rows.append(tuple(longer))
        paper = stops(rows, row)
        self.assertEqual(len(paper or ()), 201 * 12 if paper else 0)
        paper = stops(rows + [row], row)
        self.assertEqual(len(paper), 201 * 12)
        self.assertTrue(check_stops(rows + [row], row, paper))
        self.assertLess(time.time() - begun, 15)
        self.assertEqual(common_all(rows[:1] + [("a",)])[-1:], (("a",),))


class OneCourseTest(unittest.TestCase):
    def test_loops(self):
        book = one_course(2, (1,), do(0, "a", 0), do(0, "b", 1))
        table = lists(book, plain(book))
        self.assertEqual(lacking(table, (("main", 0),) * 3, ("b",) * 4), ("b",) * 3)


if __name__ == "__main__":
    unittest.main()
