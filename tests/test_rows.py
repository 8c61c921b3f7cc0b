"""[6] to [9]: rows, fits, common rows and covers."""

import itertools
import math
import random
import time
import unittest

import brute
from stillowed.errors import InvalidRow, Refused
from stillowed.rows import (check_row, common, common_all, cover, first_fit, fits, greatest_rows, in_order, last_fit,
                            within)

NO_NAMES = [None, 1, True, "", "A", "aB", "abcdef", "a b", "a1", "\xe4", b"a", ("a",), ["a"], {}, 1.0, object(), " a"]


def rows_up_to(words, size):
    return [row for many in range(size + 1) for row in itertools.product(words, repeat=many)]


def all_fits(u, v):
    return [places for places in itertools.combinations(range(len(v)), len(u)) if tuple(v[i] for i in places) == u]


def greatest(rows):
    return brute.in_order(r for r in rows if not any(r != s and brute.quick_within(r, s) for s in rows))


class CheckRowTest(unittest.TestCase):
    def test_rows(self):
        for row in ((), ("a",), ("abcde", "z"), ("a",) * 400):
            self.assertIsNone(check_row(row))

    def test_no_tuple(self):
        for value in brute.ODD_VALUES + [["a"], "ab"]:
            if not isinstance(value, tuple):
                with self.assertRaises(InvalidRow) as caught:
                    check_row(value)
                self.assertEqual(caught.exception.at, -1)

    def test_any_value_in_any_place(self):
        for value in NO_NAMES + brute.ODD_VALUES:
            if isinstance(value, str) and value == "main":
                continue
            for row in ((), ("a",), ("a",) * 7, ("a",) * 399):
                for behind in ((), ("b",), (None,)):
                    with self.assertRaises(InvalidRow) as caught:
                        check_row(row + (value,) + behind)
                    self.assertEqual(caught.exception.at, len(row))

    def test_index_four_hundred(self):
        for row, at in ((("a",) * 401, 400), (("a",) * 402, 400), (("a",) * 400 + (None,), 400),
                        (("a",) * 401 + (None,), 400), (("a",) * 399 + (None, "a", "a"), 399), ((None,) * 500, 0)):
            with self.assertRaises(InvalidRow) as caught:
                check_row(row)
            self.assertEqual(caught.exception.at, at)


class OrderTest(unittest.TestCase):
    def test_in_order(self):
        self.assertEqual(in_order([]), ())
        self.assertEqual(in_order(()), ())
        rows = [("b",), ("a", "a"), (), ("ab",), ("a",), ("b",), (), ("a", "a", "a"), ("a", "b")]
        expected = ((), ("a",), ("ab",), ("b",), ("a", "a"), ("a", "b"), ("a", "a", "a"))
        self.assertEqual(in_order(rows), expected)
        self.assertEqual(in_order(tuple(rows)), expected)
        self.assertEqual(rows[0], ("b",))

    def test_greatest_rows(self):
        self.assertEqual(greatest_rows(()), ())
        self.assertEqual(greatest_rows([()]), ((),))
        self.assertEqual(greatest_rows([(), ("a",), ("a",)]), (("a",),))
        rows = [("b", "a"), ("a",), ("a", "b"), ("b", "a"), ("b",), (), ("c",)]
        self.assertEqual(greatest_rows(rows), (("c",), ("a", "b"), ("b", "a")))
        rng = random.Random(81)
        for _ in range(200):
            rows = [tuple(rng.choice("ab") for _ in range(rng.randint(0, 5))) for _ in range(rng.randint(1, 12))]
            self.assertEqual(greatest_rows(rows), greatest(set(rows)))
            self.assertEqual(greatest_rows(tuple(rows[::-1])), greatest(set(rows)))


class FitsTest(unittest.TestCase):
    def test_small_rows(self):
        for v in rows_up_to("ab", 5):
            for u in rows_up_to("ab", 3):
                known = all_fits(u, v)
                self.assertIs(within(u, v), bool(known))
                self.assertEqual(fits(u, v), len(known))
                self.assertEqual(first_fit(u, v), known[0] if known else None)
                self.assertEqual(last_fit(u, v), known[-1] if known else None)
                if known:
                    self.assertEqual(first_fit(u, v), tuple(map(min, zip(*known))))
                    self.assertEqual(last_fit(u, v), tuple(map(max, zip(*known))))

    def test_empty_and_equal_rows(self):
        for row in ((), ("a",), ("a", "b", "a"), ("a",) * 500):
            self.assertTrue(within((), row))
            self.assertEqual((fits((), row), first_fit((), row), last_fit((), row)), (1, (), ()))
            self.assertTrue(within(row, row))
            self.assertEqual(fits(row, row), 1)
            self.assertEqual(first_fit(row, row), tuple(range(len(row))))
            self.assertEqual(last_fit(row, row), tuple(range(len(row))))
        self.assertFalse(within(("a",), ()))
        self.assertEqual((fits(("a",), ()), first_fit(("a",), ()), last_fit(("a",), ())), (0, None, None))
        self.assertFalse(within(("a", "b"), ("b", "a")))
        self.assertFalse(within(("a", "a"), ("a",)))

    def test_very_long_rows(self):
        began = time.time()
        u, v = ("a",) * 300, ("a",) * 600
        self.assertEqual(fits(u, v), math.comb(600, 300))
        self.assertEqual(first_fit(u, v), tuple(range(300)))
        self.assertEqual(last_fit(u, v), tuple(range(300, 600)))
        v = ("a", "b", "c") * 30000
        self.assertTrue(within(("c", "b", "a") * 10000, v))
        self.assertFalse(within(("c", "b", "a") * 15001, v))
        self.assertEqual(first_fit(("c", "a"), v), (2, 3))
        self.assertEqual(last_fit(("c", "a"), v), (89996, 89997))
        self.assertEqual(fits(("b",), v), 30000)
        self.assertEqual(len(first_fit(("c", "b", "a") * 10000, v)), 30000)
        self.assertLess(time.time() - began, 10)


def common_by_hand(rows):
    shortest = min(rows, key=len)
    found = {tuple(shortest[i] for i in places) for many in range(len(shortest) + 1)
             for places in itertools.combinations(range(len(shortest)), many)}
    return greatest({r for r in found if all(brute.quick_within(r, row) for row in rows)})


class CommonTest(unittest.TestCase):
    def test_two_rows(self):
        self.assertEqual(common(("a", "b"), ("b", "a")), (("a",), ("b",)))
        self.assertEqual(common((), ("a",)), ((),))
        self.assertEqual(common(("a",), ("b",)), ((),))
        self.assertEqual(common(("a", "b", "a"), ("a", "a", "b")), (("a", "a"), ("a", "b")))
        rng = random.Random(82)
        for _ in range(300):
            u = tuple(rng.choice("abc") for _ in range(rng.randint(0, 7)))
            v = tuple(rng.choice("abc") for _ in range(rng.randint(0, 7)))
            self.assertEqual(common(u, v), common_by_hand([u, v]))
            self.assertEqual(common(v, u), common(u, v))

    def test_rows_of_unlike_lengths_may_both_be_greatest(self):
        self.assertEqual(common(tuple("xaab"), tuple("aabx")), (("x",), tuple("aab")))

    def test_more_rows(self):
        self.assertEqual(common_all([("a", "b")]), (("a", "b"),))
        self.assertEqual(common_all((("a", "b"), ("a", "b"))), (("a", "b"),))
        rng = random.Random(83)
        for _ in range(200):
            rows = [tuple(rng.choice("ab") for _ in range(rng.randint(2, 8))) for _ in range(rng.randint(1, 5))]
            expected = common_by_hand(rows)
            self.assertEqual(common_all(rows), expected)
            rng.shuffle(rows)
            self.assertEqual(common_all(rows + rows[:1]), expected)
            self.assertEqual(common_all(tuple(rows)), expected)

    def test_twelve_and_thirteen_deeds(self):
        began = time.time()
        twelve = tuple("abcdefghijkl")
        self.assertEqual(common(twelve, ("z",) * 200 + twelve + ("z",) * 188), (twelve,))
        self.assertEqual(common(("a", "b") * 200, ("b", "a") * 6), (("b", "a") * 6,))
        self.assertEqual(len(common(twelve, twelve[::-1])), 12)
        for u, v in ((twelve + ("m",), twelve + ("m",)), (("a",) * 13, ("b",) * 400), (("a",) * 400, ("a",) * 13)):
            with self.assertRaises(Refused) as caught:
                common(u, v)
            self.assertEqual(caught.exception.word, "long")
            with self.assertRaises(Refused):
                common_all([u, v, v])
            self.assertEqual(common_all([u, v, ()]), ((),))
        rng = random.Random(84)
        rows = [tuple(rng.choice("abcdef") for _ in range(400)) for _ in range(500)] + [tuple("abcdef") * 2]
        common_all(rows)
        self.assertLess(time.time() - began, 15)


class CoverTest(unittest.TestCase):
    def test_small_rows(self):
        rows = rows_up_to("ab", 3)
        for u in rows:
            for v in rows:
                expected = next(r for r in sorted(rows_up_to("ab", 6), key=lambda r: (len(r), r))
                                if brute.quick_within(u, r) and brute.quick_within(v, r))
                self.assertEqual(cover(u, v), expected)

    def test_three_deeds(self):
        rng = random.Random(85)
        listed = sorted(rows_up_to("abc", 6), key=lambda r: (len(r), r))
        for _ in range(60):
            u = tuple(rng.choice("abc") for _ in range(rng.randint(0, 3)))
            v = tuple(rng.choice("abc") for _ in range(rng.randint(0, 3)))
            expected = next(r for r in listed if brute.quick_within(u, r) and brute.quick_within(v, r))
            self.assertEqual(cover(u, v), expected)
            self.assertEqual(cover(v, u), expected)

    def test_edges(self):
        self.assertEqual(cover((), ()), ())
        self.assertEqual(cover(("b",), ()), ("b",))
        self.assertEqual(cover(("a", "b"), ("a", "b")), ("a", "b"))
        self.assertEqual(cover(("b",), ("a",)), ("a", "b"))
        self.assertEqual(cover(("b",), ("ab",)), ("ab", "b"))
        self.assertEqual(cover(("a", "b"), ("b", "a")), ("a", "b", "a"))
        self.assertEqual(cover(("a",), ("b", "a", "b")), ("b", "a", "b"))

    def test_long_rows(self):
        began = time.time()
        self.assertEqual(cover(("a",) * 400, ("b",) * 400), ("a",) * 400 + ("b",) * 400)
        rng = random.Random(86)
        u = tuple(rng.choice("abc") for _ in range(400))
        v = tuple(rng.choice("abc") for _ in range(400))
        found = cover(u, v)
        self.assertTrue(brute.quick_within(u, found) and brute.quick_within(v, found))
        self.assertEqual(cover(v, u), found)
        self.assertLess(time.time() - began, 5)


if __name__ == "__main__":
    unittest.main()
