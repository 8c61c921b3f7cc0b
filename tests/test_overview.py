"""The examples of the document, as far as what they use has landed."""

import unittest

from samples import NEST
from stillowed.corners import Mixed, check_corner, corners
from stillowed.lengths import plain
from stillowed.loads import left_free, loading_steps, loads
from stillowed.orders import rests, wrong_at
from stillowed.owed import court, tight_run
from stillowed.prices import price_steps
from stillowed.single import owed_at
from stillowed.texts import book_of, read_courses


class OverviewTest(unittest.TestCase):
    def test_first_chapter(self):
        book = book_of(read_courses("order: take (pay) send\npay: card | card stamp"))
        self.assertEqual(court(book, plain(book)).owed((("pay", 0), ("order", 2))), ("card", "send"))
        torn = court(book_of(read_courses("main: card | cash stamp")),
                     {"card": ("card",), "cash": ("cash",), "stamp": ("stamp",)})
        self.assertEqual((torn.one, torn.other), (("card",), ("cash", "stamp")))

    def test_owed_rows(self):
        nest = book_of(read_courses("main: a (main) b | c"))
        self.assertEqual(len(nest.steps("main")), len(NEST.steps("main")))
        table = court(nest, plain(nest))
        self.assertEqual((table.rows[("main", 1)], table.ways[("main", 0)], table.ranks[("main", 1)]),
                         (("c", "b"), ("step", 1), 2))
        self.assertEqual(tight_run(nest, table, (("main", 2),)), (("do", 3), ("leave",)))
        torn = book_of(read_courses("main: [(y)] z\ny: a | b"))
        self.assertEqual((court(torn, plain(torn)).stage, owed_at(torn, plain(torn), (("main", 0),))), (("y", 0), ("z",)))

    def test_prices(self):
        counts = ((0, 4), (3, 3), (4, 0))
        self.assertEqual((corners(counts), check_corner(counts, 1, Mixed((1, 0, 1)))), ((0, 2), True))
        self.assertEqual(price_steps(((0, 4), (1, 1), (4, 0)), (0, 6), 0), ((0, 2), (2, 1), (18, 0)))

    def test_loads(self):
        book = book_of(read_courses("main: (x) a\nx: [h b]"))
        table = court(book, {"a": ("a",), "b": ("b",), "h": ()})
        self.assertEqual(loading_steps(table), (("x", 0),))
        self.assertEqual(left_free(table, ("h",)), (("main", 2), ("x", 0), ("x", 2)))
        self.assertEqual(loads(table, ("h",))[("main", 0)], 2)

    def test_orders(self):
        book = book_of(read_courses("main: d | a b d | a c d"))
        table = court(book, plain(book))
        self.assertEqual(rests(table, (("main", 0),), ("a",)), (("b", "d"), ("c", "d")))
        self.assertEqual(wrong_at(table.book, (("main", 0),), ("a", "b", "b")), 2)


if __name__ == "__main__":
    unittest.main()
