"""The sentences of the document in italics, and what it says of clear books, over many drawn books."""

import random
import unittest

import brute
import sound
from stillowed.blurs import all_blurs, blur_view, coarser
from stillowed.counts import conflict
from stillowed.dealings import own_desks
from stillowed.desks import is_clear_by
from stillowed.errors import Refused
from stillowed.lengths import plain
from stillowed.lists import lists
from stillowed.made import made_book, part_view, put_books
from stillowed.makings import is_exact, made_row, own_deeds
from stillowed.met import met
from stillowed.moments import run_moments
from stillowed.notes import old_book, old_note
from stillowed.orders import rests
from stillowed.owed import OwedTable, court
from stillowed.papers import check_table
from stillowed.rows import within
from stillowed.single import owed_at
from stillowed.texts import book_of, read_courses
from tables import clear_tables, looped_tables, wider_tables
from test_desks import dealt_books


def plain_tables(seed):
    """Tables of clear books where each deed stands for itself."""
    tables = clear_tables(seed, 120) + looped_tables(seed, 30) + wider_tables(seed, 30)
    return [table for table in tables if table.view == plain(table.book)]


def rows_of(rng, deeds, most, many):
    return [tuple(rng.choice(deeds) for _ in range(rng.randint(0, most))) for _ in range(many)]


class NotesTest(unittest.TestCase):
    def test_the_owed_row_is_the_only_right_and_thrifty_note(self):
        for table in plain_tables(1):
            listed = brute.endings(table.book, 5)
            for stage in table.rows:
                least = min((len(row) for row in listed[stage]), default=None)
                if least is not None and least <= 5:
                    self.assertEqual([row for row in listed[stage] if len(row) == least], [table.rows[stage]])

    def test_old_notes_lie_within_the_row_that_is_owed_now(self):
        for table in plain_tables(2):
            for run, moment, deeds in (brute.runs(table.book, ((table.book.main(), 0),), 5, True) or [])[:150]:
                old = old_note(table.owed(((table.book.main(), 0),)), deeds)
                self.assertTrue(within(old, table.owed(moment)))

    def test_no_more_is_known(self):
        rng = random.Random(3)
        for _ in range(150):
            row, deeds = rows_of(rng, "abcd", 6, 2)
            book, run = old_book(row, deeds)
            table = court(book, plain(book))
            self.assertTrue(check_table(table))
            moments = run_moments(book, run)
            self.assertEqual((table.owed(moments[0]), table.owed(moments[-1])), (row, old_note(row, deeds)))

    def test_behind_a_beginning_of_the_owed_row_just_its_rest_is_left(self):
        others = {0: 0, 1: 0, 2: 0}
        rng = random.Random(4)
        for table in plain_tables(5):
            for moment in rng.sample(moments := sound.moments(table.book, 2), min(5, len(moments))):
                owed = table.owed(moment)
                for many in range(min(len(owed), 20) + 1):
                    self.assertEqual(rests(table, moment, owed[:many]), (owed[many:],))
                if table.book.deeds():
                    row, = rows_of(rng, table.book.deeds(), 3, 1)
                    try:
                        others[min(2, len(rests(table, moment, row)))] += 1
                    except Refused as error:
                        self.assertEqual(error.word, "wide")
        self.assertGreater(min(others.values()), 0)


class MakingsTest(unittest.TestCase):
    def test_exact_exactly_if_each_deed_has_an_own_deed(self):
        rng = random.Random(6)
        seen = [0, 0]
        for _ in range(150):
            making = {deed: row for deed, row in zip("abc", rows_of(rng, "xyz", 2, rng.randint(1, 3)))}
            rows = [tuple(rng.choice(sorted(making)) for _ in range(many)) for many in (0, 1, 1, 2, 2, 3, 3, 4) for _ in range(4)]
            exact = all(len(own_deeds(making)[deed]) > 0 for deed in making)
            self.assertEqual(is_exact(making), exact)
            broken = any(within(made_row(making, u), made_row(making, v)) and not within(u, v) for u in rows for v in rows)
            if exact:
                self.assertFalse(broken)
            seen[exact] += 1
        self.assertGreater(min(seen), 10)

    def test_made_books(self):
        rng = random.Random(7)
        seen = [0, 0]
        for book in brute.mixed_books(8, 400):
            if (book.main(), 0) not in brute.useful(book):
                continue
            making = {deed: row for deed, row in zip(book.deeds(), rows_of(rng, "pqr", 3, len(book.deeds())))}
            try:
                made = made_book(book, making)
            except Refused:
                continue
            table, other = court(book, making), court(made, plain(made))
            clear = isinstance(table, OwedTable)
            seen[clear] += 1
            self.assertEqual(isinstance(other, OwedTable), clear)
            if clear:
                for stage in met(book):
                    self.assertEqual(other.row(stage), table.row(stage))
        self.assertGreater(min(seen), 10)

    def test_courses_for_deeds(self):
        rng = random.Random(9)
        parts = [book_of(read_courses(text)) for text in ("p: y | y z", "p: [y]", "p: y (q)\nq: z | z z", "p: {y} z", "p: y | z")]
        seen = [0, 0, 0]
        for book in brute.mixed_books(10, 200):
            if not book.deeds() or not {"p", "q"}.isdisjoint(book.names()):
                continue
            told = ((rng.choice(book.deeds()), rng.choice(parts)),)
            try:
                view = part_view(book, told)
            except Refused as error:
                self.assertEqual(error.word, "torn")
                seen[2] += 1
                continue
            made = put_books(book, told)
            for stage in brute.useful(book):
                row = owed_at(book, view, (stage,))
                self.assertEqual(owed_at(made, plain(made), (stage,)), row)
                seen[row is None] += 1
        self.assertGreater(min(seen), 10)

    def test_blurs(self):
        checked = 0
        for book, _ in dealt_books(11, 80):
            if not 1 <= len(book.deeds()) <= 4:
                continue
            blurs = all_blurs(book.deeds())
            clear = {blur: isinstance(court(book, blur_view(blur)), OwedTable) for blur in blurs}
            for blur in blurs:
                if clear[blur]:
                    self.assertTrue(all(clear[other] for other in blurs if coarser(other, blur)))
                    checked += 1
        self.assertGreater(checked, 300)


class ClearBooksTest(unittest.TestCase):
    def test_a_clear_book_is_clear_by_every_view(self):
        rng = random.Random(12)
        for table in plain_tables(13):
            view = brute.random_view(rng, table.book, 3)
            other = court(table.book, view)
            self.assertIsInstance(other, OwedTable)
            for stage in table.rows:
                self.assertEqual(other.rows[stage], tuple(shown for deed in table.rows[stage] for shown in view[deed]))

    def test_clear_exactly_if_all_lists_have_one_row(self):
        seen = [0, 0]
        for book in brute.mixed_books(14, 200):
            if (book.main(), 0) in brute.useful(book):
                try:
                    table = lists(book, plain(book))
                except Refused:
                    continue
                clear = all(len(table[stage]) == 1 for stage in met(book))
                self.assertEqual(isinstance(court(book, plain(book)), OwedTable), clear)
                seen[clear] += 1
        self.assertGreater(min(seen), 10)

    def test_clear_by_own_desks_exactly_if_no_deeds_are_in_conflict(self):
        seen = [0, 0]
        for book, _ in dealt_books(15, 200):
            together = all(conflict(book, stage) is None for stage in met(book))
            self.assertEqual(is_clear_by(book, own_desks(book)), together)
            seen[together] += 1
        self.assertGreater(min(seen), 10)


if __name__ == "__main__":
    unittest.main()
