"""[75], [76]: notes, and what is left of them when some deeds have been done."""

import random
import time
import unittest

import brute
import sound
from samples import NEST, TORN, course, do, full_book, one_course
from stillowed.books import Book
from stillowed.errors import Refused
from stillowed.lengths import lengths, plain
from stillowed.moments import run_moments
from stillowed.notes import check_plan, note_plan, old_book, old_note
from stillowed.owed import OwedTable, court
from stillowed.rows import within
from tables import clear_tables, looped_tables, wider_tables

SIZE = 6


def moment_endings(book, moment, size):
    """All endings of a moment of at most so many deeds."""
    listed = brute.endings(book, size)
    rows = {()}
    for stage in moment:
        rows = {one + other for one in rows for other in listed[stage] if len(one) + len(other) <= size}
    return rows


class PlanTest(unittest.TestCase):
    def test_small_books(self):
        table = court(NEST, plain(NEST))
        first, second, third = (("main", 0),), (("main", 2),), (("main", 1), ("main", 2))
        self.assertEqual(note_plan(table, (third, first, (), second, first)),
                         (((), ("b",), ("c",), ("c", "b", "b")), (3, 2, 0, 1, 2)))
        self.assertEqual(note_plan(table, ()), ((), ()))
        self.assertTrue(check_plan(NEST, (), (), ()))
        self.assertTrue(check_plan(NEST, (third, first, (), second, first), ((), ("b",), ("c",), ("c", "b", "b")), (3, 2, 0, 1, 2)))

    def test_each_condition(self):
        moments = ((("main", 1),), (("main", 2),), (("main", 0),))
        rows, marks = (("b",), ("c",), ("c", "b")), (2, 0, 1)
        for told_rows, told_marks, wanted in (
                (rows, marks, True), (rows, (2, 0), False), (rows, (2, 0, 1, 1), False), (rows, (2, 1, 1), False),
                (rows, (1, 0, 1), False), (rows, (2, 0, 3), False), (rows, (2, 0, -1), False), (rows, (-1, 0, 1), False),
                ((("c",), ("b",), ("c", "b")), (2, 1, 0), False), ((("b",), ("b",), ("c",), ("c", "b")), (3, 0, 2), False),
                ((("b",), ("c",), ("c", "b"), ("z", "z")), marks, False), ((("c", "b"), ("b",), ("c",)), (0, 1, 2), False),
                ((("b",), ("c",)), (1, 0, 1), False), ((), marks, False),
                # Right, but not thrifty: the row a c b is an ending, too.
                ((("b",), ("c", "b"), ("a", "c", "b")), (1, 0, 2), False),
                ((("b",), ("c",), ("a", "c", "b", "b")), (2, 0, 1), False),
                # As long as the right one.
                ((("b",), ("c",), ("b", "c")), marks, False)):
            self.assertIs(check_plan(NEST, moments, told_rows, told_marks), wanted, (told_rows, told_marks))

    def test_books_with_several_thrifty_notes(self):
        book = one_course(2, (1,), do(0, "a", 1), do(0, "b", 1))
        first = (("main", 0),)
        self.assertTrue(check_plan(book, (first, first, ()), ((), ("a",), ("b",)), (2, 1, 0)))
        self.assertFalse(check_plan(book, (first, first, ()), ((), ("a",), ("b",)), (1, 1, 0)))
        self.assertTrue(check_plan(book, (first,), (("b",),), (0,)))
        self.assertFalse(check_plan(book, (first,), (("c",),), (0,)))
        self.assertTrue(check_plan(TORN, ((("main", 0),),), (("card",),), (0,)))
        self.assertFalse(check_plan(TORN, ((("main", 0),),), (("cash", "stamp"),), (0,)))

    def test_long_notes(self):
        book = one_course(20, (19,), *[do(n, "a", n + 1) for n in range(19)])
        moment = (("main", 0), ("main", 14))
        line = Book((course("main", 2, (1,), (0, "call", "x", 1)), course("x", 20, (19,), *[do(n, "a", n + 1) for n in range(19)])))
        self.assertTrue(check_plan(line, ((("x", 0), ("main", 1)),), (("a",) * 19,), (0,)))
        self.assertTrue(check_plan(book, (moment[:1],), (("a",) * 19,), (0,)))
        # A row that is longer than notes are is no right one, and no error.
        self.assertFalse(check_plan(book, (moment[:1],), (("a",) * 26,), (0,)))

    def test_the_owed_row_is_the_only_right_and_thrifty_note(self):
        rng = random.Random(751)
        notes = 0
        for table in clear_tables(751, 80) + looped_tables(751, 15) + wider_tables(751, 25):
            if table.view != plain(table.book):
                continue
            moments = tuple(sound.moments(table.book, 2))
            chosen = tuple(rng.choice(moments) for _ in range(4)) + ((),)
            rows, marks = note_plan(table, chosen)
            self.assertEqual(rows, brute.in_order(rows))
            self.assertEqual(tuple(rows[mark] for mark in marks), tuple(table.owed(moment) for moment in chosen))
            self.assertIs(check_plan(table.book, chosen, rows, marks), True)
            for moment in chosen[:2]:
                owed = table.owed(moment)
                if len(owed) <= 4:
                    for row in moment_endings(table.book, moment, 5) | {owed + ("a",), owed[1:], ("zz",)}:
                        self.assertIs(check_plan(table.book, (moment,), (row,), (0,)), row == owed)
                        notes += 1
        self.assertGreater(notes, 500)

    def test_random_plans_of_any_books(self):
        rng = random.Random(752)
        seen = [0, 0]
        for book in brute.mixed_books(752, 150):
            if (book.main(), 0) not in brute.useful(book):
                continue
            least = lengths(book, plain(book))
            moments = sound.moments(book, 2)
            for _ in range(4):
                moment = rng.choice(moments)
                listed = moment_endings(book, moment, 5)
                row = rng.choice(sorted(listed)) if listed else ("a",)
                right = row in listed and len(row) == sum(least[stage] for stage in moment)
                self.assertIs(check_plan(book, (moment,), (row,), (0,)), right)
                seen[right] += 1
        self.assertGreater(min(seen), 30)


class OldNoteTest(unittest.TestCase):
    def test_small_rows(self):
        for row, deeds, left in (((), (), ()), ((), ("a",), ()), (("a",), (), ("a",)), (("a", "b"), ("b", "a"), ("b",)),
                                 (("a", "b", "a"), ("b", "a", "a"), ("b", "a")), (("a", "b"), ("a", "c", "b"), ()),
                                 (("a", "a"), ("a",), ("a",)), (("a", "b"), ("c",), ("a", "b"))):
            self.assertEqual(old_note(row, deeds), left)

    def test_random_rows(self):
        rng = random.Random(761)
        for _ in range(300):
            row, deeds = (tuple(rng.choice("abc") for _ in range(rng.randint(0, 6))) for _ in range(2))
            beginnings = [many for many in range(len(row) + 1) if brute.within(row[:many], deeds)]
            self.assertEqual(old_note(row, deeds), row[max(beginnings):])

    def test_it_lies_within_the_row_that_is_owed_now(self):
        rng = random.Random(762)
        seen = 0
        for table in clear_tables(762, 80) + looped_tables(762, 25) + wider_tables(762, 25):
            if table.view != plain(table.book):
                continue
            book = table.book
            for _ in range(4):
                moment = rng.choice(sound.moments(book, 2))
                row, deeds = table.owed(moment), ()
                for _ in range(6):
                    moves = brute.let(book, brute.useful(book), moment)
                    if moves:
                        move = rng.choice(moves)
                        deeds += brute.deed_of(book, moment, move)
                        moment = brute.behind(book, moment, move)
                        self.assertTrue(within(old_note(row, deeds), table.owed(moment)))
                        seen += old_note(row, deeds) not in ((), row)
        self.assertGreater(seen, 50)


class OldBookTest(unittest.TestCase):
    def check(self, row, deeds):
        book, run = old_book(row, deeds)
        second = deeds + old_note(row, deeds)
        steps = []
        for line, first in ((row, 1), (second, 1 + len(row))):
            number = 0
            for at, deed in enumerate(line):
                steps.append((number, "do", deed, first + at))
                number = first + at
        ends = {len(row), len(row) + len(second) if second else 0}
        self.assertEqual(book.courses, (("main", 1 + len(row) + len(second), tuple(sorted(ends)), tuple(steps)),))
        self.assertEqual(run, tuple(("do", len(row) + at) for at in range(len(deeds))))
        table = court(book, plain(book))
        self.assertIsInstance(table, OwedTable)
        self.assertEqual(table.owed((("main", 0),)), row)
        self.assertEqual(table.owed(run_moments(book, run)[-1]), old_note(row, deeds))

    def test_small_rows(self):
        for row, deeds in (((), ()), ((), ("a",)), (("a",), ()), (("a",), ("a",)), (("a", "b"), ("b", "a")), (("a",), ("b",)),
                           (("a", "b", "a"), ("b", "a", "a"))):
            self.check(row, deeds)

    def test_random_rows(self):
        rng = random.Random(763)
        for _ in range(300):
            row, deeds = (tuple(rng.choice("abc") for _ in range(rng.randint(0, 6))) for _ in range(2))
            self.check(row, deeds)

    def test_19_and_20_deeds(self):
        self.check(("a",) * 9, ("a",) * 10)
        self.check(("a",) * 9, ("b",))
        for row, deeds in ((("a",) * 9, ("a",) * 11), (("a",) * 9, ("b", "b")), (("a",) * 10, ())):
            with self.assertRaises(Refused) as caught:
                old_book(row, deeds)
            self.assertEqual(caught.exception.word, "long")

    def test_12_and_13_unlike_deeds(self):
        letters = tuple("abcdefghijklmnopqrstuvwxyz")
        self.check((), letters[:12])
        self.check(letters[:5], letters[3:12])
        for row, deeds in (((), letters[:13]), (letters[:1], letters[1:13])):
            with self.assertRaises(Refused) as caught:
                old_book(row, deeds)
            self.assertEqual(caught.exception.word, "wide")
        # "long" goes ahead of "wide".
        with self.assertRaises(Refused) as caught:
            old_book((), letters[:20])
        self.assertEqual(caught.exception.word, "long")


class LimitsTest(unittest.TestCase):
    def test_at_the_limits(self):
        began = time.time()
        rng = random.Random(753)
        for _ in range(60):
            book = full_book(rng)
            table = court(book, plain(book))
            if isinstance(table, OwedTable):
                moments = tuple(sound.moments(book, 2)[:50])
                rows, marks = note_plan(table, moments)
                self.assertTrue(check_plan(book, moments, rows, marks))
        self.assertLess(time.time() - began, 10)


if __name__ == "__main__":
    unittest.main()
