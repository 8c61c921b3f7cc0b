"""The examples of the document, as they are written."""

import unittest

from samples import NEST
from stillowed.blurs import finest_blurs
from stillowed.corners import Mixed, check_corner, corners
from stillowed.lengths import plain
from stillowed.loads import left_free, loading_steps, loads
from stillowed.met import run_to
from stillowed.notes import old_note
from stillowed.orders import rests, wrong_at
from stillowed.owed import OwedTable, TwoEndings, court, tight_run
from stillowed.prices import price_steps
from stillowed.resting import late_note
from stillowed.single import owed_at
from stillowed.texts import book_of, read_courses
from stillowed.useful import ranks


class OverviewTest(unittest.TestCase):
    def test_first_chapter(self):
        book = book_of(read_courses("order: take (pay) send\npay: card | card stamp"))
        self.assertEqual(court(book, plain(book)).owed((("pay", 0), ("order", 2))), ("card", "send"))
        torn = court(book_of(read_courses("main: card | cash stamp")),
                     {"card": ("card",), "cash": ("cash",), "stamp": ("stamp",)})
        self.assertEqual((torn.one, torn.other), (("card",), ("cash", "stamp")))

    def test_texts(self):
        self.assertEqual(book_of(read_courses("pay: card|<card> stamp")).courses, (
            ("pay", 4, (1, 3), ((0, "do", "card", 1), (0, "do", "card", 2), (2, "do", "stamp", 3))),))

    def test_stages(self):
        book = book_of(read_courses("order: take (pay) send\npay: card | card stamp"))
        self.assertEqual(ranks(book)[("order", 0)], 6)
        self.assertEqual(run_to(book, ("order", 2)), (("do", 0), ("call", 1), ("do", 0), ("leave",)))

    def test_views_of_clear_books(self):
        book = book_of(read_courses("main: a b | b a"))
        self.assertIsInstance(court(book, plain(book)), TwoEndings)
        self.assertIsInstance(court(book, {"a": ("x",), "b": ("x",)}), OwedTable)

    def test_blurs(self):
        self.assertEqual(finest_blurs(book_of(read_courses("main: a b | b a"))), (
            (("a", ""), ("b", "b")), (("a", "a"), ("b", "")), (("a", "a"), ("b", "a"))))

    def test_owed_rows(self):
        nest = book_of(read_courses("main: a (main) b | c"))
        self.assertEqual(len(nest.steps("main")), len(NEST.steps("main")))
        table = court(nest, plain(nest))
        self.assertEqual((table.rows[("main", 1)], table.ways[("main", 0)], table.ranks[("main", 1)]),
                         (("c", "b"), ("step", 1), 2))
        self.assertEqual(tight_run(nest, table, (("main", 2),)), (("do", 3), ("leave",)))
        torn = book_of(read_courses("main: [(y)] z\ny: a | b"))
        self.assertEqual((court(torn, plain(torn)).stage, owed_at(torn, plain(torn), (("main", 0),))), (("y", 0), ("z",)))

    def test_prices(self):
        counts = ((0, 4), (3, 3), (4, 0))
        self.assertEqual((corners(counts), check_corner(counts, 1, Mixed((1, 0, 1)))), ((0, 2), True))
        self.assertEqual(price_steps(((0, 4), (1, 1), (4, 0)), (0, 6), 0), ((0, 2), (2, 1), (18, 0)))

    def test_loads(self):
        book = book_of(read_courses("main: (x) a\nx: [h b]"))
        table = court(book, {"a": ("a",), "b": ("b",), "h": ()})
        self.assertEqual(loading_steps(table), (("x", 0),))
        self.assertEqual(left_free(table, ("h",)), (("main", 2), ("x", 0), ("x", 2)))
        self.assertEqual(loads(table, ("h",))[("main", 0)], 2)
        self.assertEqual(late_note(table), ((("x", 0), ("main", 1)), ("do", 0)))

    def test_orders(self):
        book = book_of(read_courses("main: d | a b d | a c d"))
        table = court(book, plain(book))
        self.assertEqual(rests(table, (("main", 0),), ("a",)), (("b", "d"), ("c", "d")))
        self.assertEqual((old_note(("a", "b", "a"), ("b", "a", "a")), wrong_at(table.book, (("main", 0),), ("a", "b", "b"))),
                         (("b", "a"), 2))


if __name__ == "__main__":
    unittest.main()
