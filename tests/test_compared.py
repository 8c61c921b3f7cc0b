"""[102]: two books compared."""

import random
import time
import unittest

import brute
import tables
from brute import ODD_VALUES
from samples import NEST, ORDER, call, course, do, full_book
from stillowed.books import Book
from stillowed.compared import Alike, Parted, check_compared, compare
from stillowed.errors import Refused
from stillowed.lengths import plain
from stillowed.owed import OwedTable, court
from stillowed.pairs import is_shared, meet, reached
from stillowed.texts import book_of, read_courses
from test_pairs import shared_moments, variant


def table_of(text):
    book = book_of(read_courses(text))
    return court(book, plain(book))


def by(table, view):
    return court(table.book, view)


def pairs_of_tables(seed, many):
    rng = random.Random(seed)
    for table in tables.clear_tables(seed, many):
        other = variant(rng, table.book, rng.choice([0, 0.05, 0.15]))
        if (other.main(), 0) in brute.useful(other):
            kinds = [{deed: table.view.get(deed, (deed,)) for deed in other.deeds()}, brute.random_view(rng, other, 2)]
            for view in kinds:
                found = court(other, view)
                if isinstance(found, OwedTable):
                    yield table, found


class CompareTest(unittest.TestCase):
    def test_alike(self):
        table = court(ORDER, plain(ORDER))
        found = compare(table, table)
        self.assertIsInstance(found, Alike)
        self.assertEqual(found.leftovers, {"order": ((), ()), "pay": ((), ())})
        self.assertTrue(check_compared(table, table, found))

    def test_leftovers(self):
        # The one view has the x with the deed of y, the other one with that behind its call.
        book = book_of(read_courses("m: (y) b\ny: a"))
        one = court(book, {"a": ("p", "x"), "b": ("q",)})
        other = court(book, {"a": ("p",), "b": ("x", "q")})
        found = compare(one, other)
        self.assertIsInstance(found, Parted)
        self.assertTrue(check_compared(one, other, found))
        # Where the same is owed on both sides of the call, nothing parts them.
        book = Book((course("m", 2, (1,), call(0, "y", 1)), course("y", 1, (0,))))
        self.assertIsInstance(compare(court(book, {}), court(book, {})), Alike)
        first = Book((course("m", 3, (2,), call(0, "y", 1), do(1, "b", 2)), course("y", 2, (1,), do(0, "a", 1))))
        second = Book((course("m", 3, (2,), call(0, "y", 1), do(1, "c", 2)), course("y", 2, (0,), do(1, "a", 1))))
        one = court(first, {"a": ("k",), "b": ("k",)})
        other = court(second, {"a": (), "c": ("k", "k")})
        found = compare(one, other)
        self.assertIsInstance(found, Alike)
        self.assertEqual(found.leftovers, {"m": ((), ()), "y": ((), ("k",))})
        self.assertEqual(compare(other, one).leftovers, {"m": ((), ()), "y": (("k",), ())})
        self.assertTrue(check_compared(one, other, found))
        self.assertFalse(check_compared(other, one, found))

    def test_leftovers_of_two_entrances(self):
        # What x owes in both books cannot be done by shared steps; so only its own first stage shows what parts them.
        steps = [do(0, "a", 1), do(0, "c", 4), call(1, "x", 2), call(4, "x", 5), do(2, "b", 3), do(5, "d", 3)]
        first = Book((course("m", 6, (1, 3, 4), *steps), course("x", 2, (1,), do(0, "e", 1))))
        second = Book((first.courses[0], course("x", 2, (0,), do(1, "e", 1))))
        kinds = (("k",), ("k", "k")), (("k",), ("k",) * 3), (("k",), ("q", "k")), (("k",), ("q",)), (("k", "k"), ("k",))
        for b in kinds:
            for d in kinds:
                one = court(first, {"a": (), "c": (), "e": ("k",), "b": b[0], "d": d[0]})
                other = court(second, {"a": (), "c": (), "e": (), "b": b[1], "d": d[1]})
                found = compare(one, other)
                self.assertTrue(check_compared(one, other, found))
                alike = b == d == kinds[0]
                self.assertEqual(isinstance(found, Alike), alike, (b, d))
                self.assertIs(check_compared(one, other, Alike({"m": ((), ()), "x": ((), ("k",))})), alike)
                if not alike:
                    self.assertEqual((found.one, found.other), (one.owed(found.pile), other.owed(found.pile)))
                    self.assertNotEqual(found.one, found.other)
                    self.assertTrue(is_shared(first, second, found.pile))

    def test_parted(self):
        one, other = table_of("m: a (x) b\nx: c"), table_of("m: a (x) d\nx: c")
        found = compare(one, other)
        self.assertIsInstance(found, Parted)
        self.assertTrue(check_compared(one, other, found))
        self.assertEqual((found.one, found.other), (one.owed(found.pile), other.owed(found.pile)))
        self.assertTrue(check_compared(one, other, Parted((("m", 1),), ("c", "b"), ("c", "d"))))
        self.assertTrue(check_compared(one, other, Parted((("x", 0), ("m", 2)), ("c", "b"), ("c", "d"))))

    def test_against_moments(self):
        counts = {"Alike": 0, "Parted": 0, "left over": 0}
        for one, other in pairs_of_tables(19, 260):
            moments = shared_moments(one.book, other.book, 6)
            found = compare(one, other)
            self.assertTrue(check_compared(one, other, found))
            counts[type(found).__name__] += 1
            if isinstance(found, Parted):
                self.assertTrue(is_shared(one.book, other.book, found.pile))
                self.assertNotEqual(found.one, found.other)
                self.assertEqual((found.one, found.other), (one.owed(found.pile), other.owed(found.pile)))
                continue
            for moment in moments or ():
                self.assertEqual(one.owed(moment), other.owed(moment))
            self.check_leftovers(one, other, found.leftovers)
            counts["left over"] += any(told != ((), ()) for told in found.leftovers.values())
        self.assertGreater(min(counts["Alike"], counts["Parted"]), 30)

    def check_leftovers(self, one, other, leftovers):
        lots = reached(one.book, other.book)
        self.assertEqual(list(leftovers), list(lots))
        f, g = one.rows, other.rows
        both = brute.useful(one.book) & brute.useful(other.book)
        common = meet(one.book, other.book)
        self.assertEqual(leftovers[one.book.main()], ((), ()))
        for name in lots:
            p, q = leftovers[name]
            self.assertTrue(p == () or q == ())
            for number in lots[name]:
                self.assertEqual(f[(name, number)] + p, g[(name, number)] + q)
                for k in common.steps_from((name, number)):
                    parts = brute.parts(common, (name, number), k)
                    if len(parts) == 2 and all(part in both for part in parts):
                        u, v = leftovers[parts[0][0]]
                        self.assertEqual(v + f[parts[1]] + p, u + g[parts[1]] + q)

    def test_each_condition(self):
        book = book_of(read_courses("m: (y) b\ny: a"))
        one = court(book, plain(book))
        right = {"m": ((), ()), "y": ((), ())}
        self.assertTrue(check_compared(one, one, Alike(right)))
        for wrong in ({}, {"m": ((), ())}, {**right, "z": ((), ())}, {**right, "y": (("a",), ())}, None, (), [],
                      {**right, "y": ((),)}, {**right, "y": [(), ()]}, {**right, "m": None}, {"m": ((), ()), "y": ([], ())}):
            self.assertIs(check_compared(one, one, Alike(wrong)), False, wrong)
        self.assertIs(check_compared(one, one, Parted((("m", 0),), ("a", "b"), ("a", "b"))), False)
        other = court(book, {"a": ("a",), "b": ("c",)})
        pile = (("y", 0), ("m", 1))
        self.assertIs(check_compared(one, other, Parted(pile, ("a", "b"), ("a", "c"))), True)
        self.assertIs(check_compared(one, other, Alike(right)), False)
        for wrong in ((pile, ("a", "b"), ("a", "b")), (pile, ("b",), ("a", "c")), (pile, ["a", "b"], ("a", "c")),
                      (pile, ("a", "b"), ["a", "c"]), ((("y", 0),), ("a",), ("a",)), ((), (), ()),
                      ((("y", 0), ("m", 2)), ("a",), ("a",)), (pile, None, ("a", "c"))):
            self.assertIs(check_compared(one, other, Parted(*wrong)), False, wrong)

    def test_any_values(self):
        one = court(ORDER, plain(ORDER))
        other = court(ORDER, {**plain(ORDER), "send": ("x",)})
        for value in ODD_VALUES:
            for told in (value, Alike(value), Parted(value, (), ()), Parted((("order", 0),), value, value)):
                self.assertIs(check_compared(one, one, told), False)
                self.assertIs(check_compared(one, other, told), False)

    def test_books_that_do_not_match(self):
        one, other = court(ORDER, plain(ORDER)), court(NEST, plain(NEST))
        for function, more in ((compare, ()), (check_compared, (None,)), (check_compared, (Alike({}),))):
            with self.assertRaises(Refused) as caught:
                function(one, other, *more)
            self.assertEqual(caught.exception.word, "stages")

    def test_rings(self):
        one = court(NEST, plain(NEST))
        other = court(NEST, {"a": ("h",), "b": ("b",), "c": ("c",)})
        self.assertIsInstance(compare(one, other), Alike)
        third = court(NEST, {"a": (), "b": ("b", "b"), "c": ("c",)})
        found = compare(one, third)
        self.assertTrue(check_compared(one, third, found))
        self.assertIsInstance(found, Parted)

    def test_books_at_the_limits(self):
        rng = random.Random(4)
        begun = time.time()
        for _ in range(4):
            book = full_book(rng, 0.4, 0.05)
            table = court(book, {deed: ("x",) if rng.random() < 0.3 else () for deed in book.deeds()})
            if isinstance(table, OwedTable):
                self.assertTrue(check_compared(table, table, compare(table, table)))
        self.assertLess(time.time() - begun, 10)


if __name__ == "__main__":
    unittest.main()
