"""[96], [97], [98]: what is surely owed by all that is seen."""

import itertools
import random
import time
import unittest

import brute
import seeing
from brute import ODD_VALUES, quick_within
from samples import NEST, ORDER, full_book
from stillowed.errors import Refused
from stillowed.lengths import plain
from stillowed.owed import OwedTable, court
from stillowed.piles import is_possible, links, piles_of, tops
from stillowed.surely import Sure, carried, check_sure, least_owing, lowest, sure, unsure
from stillowed.texts import book_of, read_courses


def table_of(text):
    book = book_of(read_courses(text))
    return court(book, plain(book))


# Behind z either a b s or b a s is owed, or what is left of it.
TWO = table_of("main: s | z h a b s | z k b a s")
TWO_SEEN = ("a", "b", "s", "z")


class LowestTest(unittest.TestCase):
    def test_small_books(self):
        self.assertEqual(lowest(piles_of(ORDER, ("take", "send"), ("take",))), (("order", 1),))
        self.assertEqual(lowest(piles_of(ORDER, ("card", "stamp"), ("card", "stamp"))), ())
        self.assertEqual(lowest(piles_of(ORDER, ("card", "send"), ("card",))), (("order", 2),))
        deep = lowest(piles_of(NEST, ("a", "b", "c"), ("a", "a", "a")))
        self.assertEqual(deep, (("main", 1), ("main", 2), ("main", 2)))
        self.assertEqual(lowest(piles_of(NEST, (), ())), ())

    def test_against_moments(self):
        for table, seen, shown, moments in seeing.seen_tables(2, 120):
            piles = piles_of(table.book, seen, shown)
            if not tops(piles):
                self.assertEqual(moments, [])
                for function, told in ((lowest, (piles,)), (least_owing, (table, piles)), (sure, (table, piles)),
                                       (unsure, (table, piles, ("a",)))):
                    with self.assertRaises(Refused) as caught:
                        function(*told)
                    self.assertEqual(caught.exception.word, "hidden")
                self.assertIs(check_sure(table, piles, Sure(((),), ((),), ({},))), False)
            elif moments:
                low = lowest(piles)
                self.assertTrue(is_possible(piles, low))
                self.assertLessEqual(len(low), min(len(moment) for moment in moments))
                least = least_owing(table, piles)
                self.assertTrue(is_possible(piles, least))
                self.assertLessEqual(len(table.owed(least)), min(len(table.owed(moment)) for moment in moments))


class SureTest(unittest.TestCase):
    def test_two_rows(self):
        piles = piles_of(TWO.book, TWO_SEEN, ("z",))
        found = sure(TWO, piles)
        self.assertEqual(found.rows, (("a", "s"), ("b", "s")))
        self.assertEqual(len(found.witnesses), 2)
        self.assertTrue(check_sure(TWO, piles, found))
        self.assertIsNone(unsure(TWO, piles, ("a", "s")))
        self.assertEqual(TWO.owed(unsure(TWO, piles, ("a", "b")))[-3:], ("b", "a", "s"))
        self.assertEqual(TWO.owed(unsure(TWO, piles, ("b", "a", "s")))[-3:], ("a", "b", "s"))
        self.assertIsNone(unsure(TWO, piles, ()))
        self.assertEqual(sure(TWO, piles_of(TWO.book, TWO_SEEN, ("z", "a"))).rows, (("b", "s"),))

    def test_what_may_be_over(self):
        table = court(NEST, plain(NEST))
        piles = piles_of(NEST, ("a",), ("a",))
        found = sure(table, piles)
        self.assertEqual((found.rows, len(found.holdings)), (((),), 1))
        self.assertTrue(check_sure(table, piles, found))
        self.assertEqual(unsure(table, piles, ("b",)), ())
        for holding in found.holdings:
            self.assertEqual(sorted(holding), sorted(piles.frames))

    def test_against_moments(self):
        counts = {}
        for table, seen, shown, moments in seeing.seen_tables(3, 700):
            piles = piles_of(table.book, seen, shown)
            if not tops(piles) or not moments:
                continue
            owed_rows = [table.owed(moment) for moment in moments]
            shortest = table.owed(least_owing(table, piles))
            if len(shortest) > 12:
                continue
            found = sure(table, piles)
            counts[len(found.rows)] = counts.get(len(found.rows), 0) + 1
            self.assertTrue(check_sure(table, piles, found))
            self.assertEqual(found.rows, brute.in_order(found.rows))
            for row in {part for many in range(len(shortest) + 1) for part in itertools.combinations(shortest, many)}:
                missing = unsure(table, piles, row)
                if missing is None:
                    self.assertTrue(all(quick_within(row, owed) for owed in owed_rows))
                    self.assertTrue(any(quick_within(row, one) for one in found.rows))
                else:
                    self.assertTrue(is_possible(piles, missing))
                    self.assertFalse(quick_within(row, table.owed(missing)))
                    self.assertFalse(any(quick_within(row, one) for one in found.rows))
        self.assertGreater(counts.get(2, 0), 2)

    def test_each_condition(self):
        piles = piles_of(TWO.book, TWO_SEEN, ("z",))
        found = sure(TWO, piles)
        rows, witnesses, holdings = found.rows, found.witnesses, found.holdings
        wrong = [(rows[::-1], witnesses, holdings[::-1]), (rows[:1], witnesses, holdings[:1]), ((), witnesses, ()),
                 (rows, (), holdings), (rows, witnesses[:1], holdings), (rows, witnesses[1:], holdings),
                 (rows, witnesses, holdings[:1]),
                 (rows, witnesses, holdings + holdings[:1]),
                 (rows, witnesses + ((("main", 0),),), holdings), (rows, witnesses + ((),), holdings),
                 ((("a",), ("b",)), witnesses, holdings), (rows + (("a", "b"),), witnesses, holdings + ({},)),
                 ((("a", "b", "s"),), witnesses[:1], holdings[:1])]
        for told in wrong:
            self.assertIs(check_sure(TWO, piles, Sure(*told)), False, told)
        for value in ODD_VALUES:
            self.assertIs(check_sure(TWO, piles, Sure(rows, witnesses + (value,), holdings)), False)
        for frame in holdings[0]:
            for number in (-1, 1, 2, 3, 10):
                spoilt = ({**holdings[0], frame: number},) + holdings[1:]
                if number != holdings[0][frame]:
                    self.assertIs(check_sure(TWO, piles, Sure(rows, witnesses, spoilt)), False, (frame, number))
            without = {key: value for key, value in holdings[0].items() if key != frame}
            self.assertIs(check_sure(TWO, piles, Sure(rows, witnesses, (without,) + holdings[1:])), False)
        more = ({**holdings[0], ("zz", 4): -7},) + holdings[1:]
        self.assertTrue(check_sure(TWO, piles, Sure(rows, witnesses, more)))
        self.assertTrue(check_sure(TWO, piles, Sure(rows, witnesses * 2, holdings)))

    def test_holdings_of_inner_courses(self):
        table = table_of("main: z (x) a b c\nx: [h (x) k]")
        piles = piles_of(table.book, ("z", "a", "b", "c"), ("z",))
        found = sure(table, piles)
        self.assertEqual(found.rows, (("a", "b", "c"),))
        holding = found.holdings[0]
        self.assertEqual(holding, {("main", 0): 0, ("x", 1): 3})
        # Lesser numbers may stand where what is held is not needed: here the tops of x hold nothing themselves.
        for number in (0, 1, 2):
            self.assertIs(check_sure(table, piles, Sure(found.rows, found.witnesses, ({**holding, ("x", 1): number},))),
                          False)
        over = table_of("main: z [a]")
        piles = piles_of(over.book, ("z",), ("z",))
        self.assertIs(check_sure(over, piles, Sure((("a",),), (lowest(piles),), ({("main", 0): 0},))), False)
        self.assertTrue(check_sure(over, piles, sure(over, piles)))

    def test_links_alone(self):
        # At the frame of x nothing more can be seen; only its links tell what is held there.
        table = table_of("m: a (x) b\nx: e (y) f\ny: g h")
        piles = piles_of(table.book, ("a", "b", "e", "f", "g", "h"), ("a", "e", "g"))
        found = sure(table, piles)
        self.assertEqual((found.rows, found.holdings), ((("h", "f", "b"),), ({("m", 0): 0, ("x", 1): 1, ("y", 2): 2},)))
        for number in (0, 2, 3):
            wrong = ({**found.holdings[0], ("x", 1): number},)
            self.assertIs(check_sure(table, piles, Sure(found.rows, found.witnesses, wrong)), False)

    def test_12_and_13_owed_deeds(self):
        for many in (12, 13):
            table = table_of("main: z " + "a b " * (many // 2) + "c " * (many % 2))
            piles = piles_of(table.book, ("z", "a"), ("z",))
            self.assertEqual(len(table.owed(least_owing(table, piles))), many)
            if many == 12:
                found = sure(table, piles)
                self.assertEqual(found.rows, (("a", "b") * 6,))
                self.assertTrue(check_sure(table, piles, found))
            else:
                row = table.owed((("main", 1),))
                with self.assertRaises(Refused) as caught:
                    sure(table, piles)
                self.assertEqual(caught.exception.word, "long")
                self.assertIsNone(unsure(table, piles, row))
                value = Sure((row,), ((("main", 1),),), ({("main", 0): 0},))
                self.assertIs(check_sure(table, piles, value), False)

    def test_views(self):
        table = court(TWO.book, {"a": ("x", "y"), "b": ("x",), "h": (), "k": ("q",), "s": ("s",), "z": ()})
        if isinstance(table, OwedTable):
            piles = piles_of(TWO.book, TWO_SEEN, ("z",))
            self.assertTrue(check_sure(table, piles, sure(table, piles)))


class CarriedTest(unittest.TestCase):
    def test_small_rows(self):
        self.assertEqual(carried(TWO, TWO_SEEN, ("a", "s"), "a"), ("s",))
        self.assertEqual(carried(TWO, TWO_SEEN, ("a", "s"), "b"), ("a", "s"))
        self.assertEqual(carried(TWO, ("a", "z"), ("a", "s", "b", "a"), "a"), ("a",))
        self.assertEqual(carried(TWO, ("a", "z"), ("s", "h"), "z"), ())
        table = court(ORDER, {"take": ("p", "q", "p"), "card": ("q",), "stamp": (), "send": ("p", "r")})
        self.assertEqual(carried(table, ("take", "card"), ("p", "p", "q"), "take"), ("q",))
        self.assertEqual(carried(table, ("take", "card"), ("q", "p", "p"), "take"), ())
        self.assertEqual(carried(table, ("take", "card", "send"), ("q", "p", "q", "r"), "take"), ("q", "r"))
        self.assertEqual(carried(table, ("take",), (), "take"), ())

    def test_what_is_carried_is_sure(self):
        kept = 0
        for table, seen, shown, moments in seeing.seen_tables(5, 120):
            piles = piles_of(table.book, seen, shown)
            if not tops(piles) or not moments or len(table.owed(least_owing(table, piles))) > 12:
                continue
            for deed in seen:
                after = piles_of(table.book, seen, shown + (deed,))
                if tops(after):
                    for row in sure(table, piles).rows:
                        left = carried(table, seen, row, deed)
                        self.assertIsNone(unsure(table, after, left))
                        kept += len(left) > 0
        self.assertGreater(kept, 20)

    def test_more_names_seen(self):
        for seen in (TWO_SEEN, TWO_SEEN + ("h",)):
            piles = piles_of(TWO.book, tuple(sorted(seen)), ("z",) if "h" not in seen else ("z", "h"))
            for row in (("a", "s"), ("b", "s")):
                self.assertIsNone(unsure(TWO, piles, row))


class LimitsTest(unittest.TestCase):
    def test_books_at_the_limits(self):
        rng = random.Random(8)
        begun = time.time()
        checked = 0
        while checked < 3:
            book = full_book(rng, rng.choice([0.2, 0.5]), 0.05)
            words = book.deeds()
            table = court(book, {deed: (rng.choice("xy"),) if rng.random() < 0.3 else () for deed in words})
            if not isinstance(table, OwedTable):
                continue
            piles = piles_of(book, words[:5], tuple(rng.choice(words[:5]) for _ in range(12)))
            if tops(piles):
                checked += 1
                self.assertTrue(check_sure(table, piles, sure(table, piles)))
                self.assertTrue(is_possible(piles, lowest(piles)))
                self.assertTrue(links(piles))
        self.assertLess(time.time() - begun, 30)


if __name__ == "__main__":
    unittest.main()
