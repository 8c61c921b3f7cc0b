"""[20]: endings listed."""

import itertools
import random
import time
import unittest

import brute
from samples import DEAD, NEST, ORDER, call, course, do, full_book, one_course, tall
from stillowed.books import Book
from stillowed.endings import endings, has_ending, nth_ending
from stillowed.errors import InvalidNumber, Refused

WRONG_NUMBERS = [None, True, False, -1, -10 ** 20, 1.0, 2.5, "", "3", (), (1,), [], [2], {}, 1j, object(), b"1"]


def loop(words):
    """A course that does any of some deeds again and again."""
    return one_course(1, (0,), *[do(0, word, 0) for word in words])


class EndingsTest(unittest.TestCase):
    def test_the_books_of_the_document(self):
        self.assertEqual(endings(ORDER, ("order", 0), 8), (("take", "card", "send"), ("take", "card", "stamp", "send")))
        self.assertEqual(endings(ORDER, ("order", 0), 3), (("take", "card", "send"),))
        self.assertEqual(endings(ORDER, ("order", 0), 2), ())
        self.assertEqual(endings(ORDER, ("order", 3), 0), ((),))
        self.assertEqual(endings(NEST, ("main", 0), 8),
                         (("c",), ("a", "c", "b"), tuple("aacbb"), tuple("aaacbbb")))
        self.assertEqual(endings(DEAD, ("main", 0), 8), ())
        self.assertEqual(endings(DEAD, ("main", 1), 8), (("a",),))

    def test_order_by_length_first(self):
        book = one_course(4, (3,), do(0, "b", 3), do(0, "a", 1), do(1, "z", 3), do(1, "a", 3), do(0, "a", 3))
        self.assertEqual(endings(book, ("main", 0), 2), (("a",), ("b",), ("a", "a"), ("a", "z")))

    def test_two_ways_to_one_ending(self):
        book = one_course(4, (2, 3), do(0, "a", 1), do(0, "a", 2), do(1, "b", 3), do(2, "b", 3), do(1, "a", 1))
        self.assertEqual(endings(book, ("main", 0), 2), (("a",), ("a", "b")))

    def test_random_books(self):
        for book in brute.mixed_books(41, 250):
            found = brute.endings(book, 5)
            for stage in book.stages():
                for size in range(6):
                    expected = brute.in_order(row for row in found[stage] if len(row) <= size)
                    self.assertEqual(endings(book, stage, size), expected)
                expected = brute.in_order(found[stage])
                for n in range(min(len(expected), 12)):
                    self.assertEqual(nth_ending(book, stage, n), expected[n])

    def test_eight_deeds(self):
        expected = tuple(sorted((row for size in range(9) for row in itertools.product("ab", repeat=size)),
                                key=lambda row: (len(row), row)))
        self.assertEqual(endings(loop("ba"), ("main", 0), 8), expected)
        self.assertEqual(len(expected), 511)

    def test_more_than_two_thousand(self):
        words = "abcdefghijkl"
        # 1 + 12 + 144 + 1728 endings of up to three deeds, 108 and some more of four deeds.
        steps = [do(n, word, n + 1) for n in range(3) for word in words] + [do(0, "a", 4), do(4, "a", 5)]
        steps += [do(5, word, 6) for word in "abcdefghi"] + [do(5, "j", 8)] + [do(6, word, 7) for word in words]
        for more in (6, 7, 8, 9):
            book = one_course(9, (0, 1, 2, 3, 7), *steps, *[do(8, word, 7) for word in words[:more]])
            self.assertEqual(len(endings(book, ("main", 0), 3)), 1885)
            if more <= 7:
                self.assertEqual(len(endings(book, ("main", 0), 4)), 1993 + more)
                self.assertEqual(len(endings(book, ("main", 0), 8)), 1993 + more)
                continue
            with self.assertRaises(Refused) as caught:
                endings(book, ("main", 0), 4)
            self.assertEqual(caught.exception.word, "wide")

    def test_wide_counts_only_the_stage_that_is_asked(self):
        book = Book((course("main", 2, (1,), call(0, "x", 1), do(0, "a", 1)),
                     course("x", 3, (), do(0, "a", 1), call(1, "y", 2)),
                     course("y", 1, (0,), *[do(0, word, 0) for word in "abcdefghijkl"])))
        self.assertEqual(endings(book, ("main", 0), 8), (("a",),))
        self.assertEqual(endings(book, ("x", 0), 8), ())
        with self.assertRaises(Refused):
            endings(book, ("y", 0), 8)
        # The course y has very many endings of eight deeds, but behind seven deeds only one fits.
        steps = [do(n, "a", n + 1) for n in range(7)] + [call(7, "y", 8)]
        book = Book((course("main", 9, (8,), *steps), book.courses[2]))
        self.assertEqual(len(endings(book, ("main", 0), 8)), 1 + 12)

    def test_wrong_sizes(self):
        for value in WRONG_NUMBERS + [9, 10 ** 30]:
            with self.assertRaises(InvalidNumber) as caught:
                endings(loop("abcdefghijkl"), ("main", 0), value)
            self.assertEqual(caught.exception.word, "size")
        with self.assertRaises(Refused):
            endings(loop("abcdefghijkl"), ("main", 0), 8)
        self.assertEqual(endings(loop("abcdefghijkl"), ("main", 0), 0), ((),))


class NthEndingTest(unittest.TestCase):
    def test_twelve_deeds_and_two_hundred(self):
        book = one_course(1, (0,), do(0, "a", 0))
        self.assertEqual(nth_ending(book, ("main", 0), 0), ())
        self.assertEqual(nth_ending(book, ("main", 0), 12), ("a",) * 12)
        for n in (13, 14, 200):
            self.assertIsNone(nth_ending(book, ("main", 0), n))
        rows = sorted((row for size in range(9) for row in itertools.product("ab", repeat=size)),
                      key=lambda row: (len(row), row))
        for n in (0, 1, 2, 3, 6, 7, 62, 63, 126, 127, 199, 200):
            self.assertEqual(nth_ending(loop("ba"), ("main", 0), n), rows[n])
        self.assertIsNone(nth_ending(DEAD, ("main", 0), 0))

    def test_many_deeds(self):
        book = loop("abcdefghijkl")
        self.assertEqual(nth_ending(book, ("main", 0), 200), ("a", "d", "h"))
        line = Book((course("main", 13, (12,), *[do(n, "x", n + 1) for n in range(11)], call(11, "y", 12)),
                     course("y", 2, (1,), *[do(0, word, 1) for word in "abcdefghijk"], do(1, "a", 1))))
        self.assertEqual(nth_ending(line, ("main", 0), 10), ("x",) * 11 + ("k",))
        self.assertIsNone(nth_ending(line, ("main", 0), 11))

    def test_wrong_numbers(self):
        for value in WRONG_NUMBERS + [201, 10 ** 30]:
            with self.assertRaises(InvalidNumber) as caught:
                nth_ending(ORDER, ("order", 0), value)
            self.assertEqual(caught.exception.word, "n")

    def test_both_agree(self):
        for book in brute.mixed_books(42, 100, deeds=2):
            for stage in book.stages():
                try:
                    listed = endings(book, stage, 8)
                except Refused:
                    continue
                for n in range(min(40, len(listed))):
                    self.assertEqual(nth_ending(book, stage, n), listed[n])


class HasEndingTest(unittest.TestCase):
    def test_random_books(self):
        rng = random.Random(43)
        for book in brute.mixed_books(43, 200):
            found = brute.endings(book, 5)
            for stage in book.stages():
                for row in found[stage]:
                    self.assertIs(has_ending(book, stage, row), True)
                for _ in range(4):
                    row = tuple(rng.choice("abc") for _ in range(rng.randint(0, 5)))
                    self.assertIs(has_ending(book, stage, row), row in found[stage])

    def test_forty_deeds(self):
        for half in (1, 7, 19):
            self.assertTrue(has_ending(NEST, ("main", 0), ("a",) * half + ("c",) + ("b",) * half))
            self.assertFalse(has_ending(NEST, ("main", 0), ("a",) * half + ("c",) + ("b",) * (half + 1)))
        self.assertTrue(has_ending(loop("ab"), ("main", 0), ("a", "b") * 20))
        self.assertFalse(has_ending(NEST, ("main", 0), ("a", "b") * 20))
        for many in (41, 42, 400):
            with self.assertRaises(Refused) as caught:
                has_ending(loop("ab"), ("main", 0), ("a",) * many)
            self.assertEqual(caught.exception.word, "long")

    def test_deeds_that_the_book_does_not_have(self):
        self.assertFalse(has_ending(ORDER, ("order", 0), ("take", "cash", "send")))
        self.assertFalse(has_ending(DEAD, ("main", 0), ()))
        self.assertFalse(has_ending(ORDER, ("order", 0), ()))
        self.assertTrue(has_ending(ORDER, ("order", 3), ()))


class LimitsTest(unittest.TestCase):
    def test_books_at_the_limits(self):
        began = time.time()
        rng = random.Random(44)
        for _ in range(4):
            book = full_book(rng)
            for stage in book.stages()[::7]:
                for size in (0, 4, 8):
                    try:
                        rows = endings(book, stage, size)
                    except Refused:
                        continue
                    self.assertTrue(all(has_ending(book, stage, row) for row in rows[:3]))
                nth_ending(book, stage, 200)
                has_ending(book, stage, tuple(rng.choice(book.deeds()) for _ in range(40)))
        self.assertLess(time.time() - began, 40)

    def test_rings_of_calls(self):
        began = time.time()
        names = "abcdefgh"
        # Every course may end at once and calls all others: the empty ending is found in very many ways.
        courses = []
        for at, name in enumerate(names):
            steps = [call(0, other, 0) for other in names] + [call(n, names[(at + n) % 8], n - 1) for n in range(1, 7)]
            courses.append((name, 7, tuple(range(7)), tuple(steps) + (do(0, "x", 6),)))
        book = Book(tuple(courses))
        self.assertEqual(endings(book, ("a", 6), 8), tuple(("x",) * n for n in range(9)))
        self.assertTrue(has_ending(book, ("h", 3), ("x",) * 40))
        self.assertFalse(has_ending(book, ("h", 3), ("x",) * 39 + ("y",)))
        self.assertEqual(nth_ending(book, ("a", 0), 12), ("x",) * 12)
        deep = tall((20, 20, 20))
        self.assertEqual(endings(deep, ("a", 18), 8), ())
        self.assertEqual(endings(deep, ("c", 11), 8), (("x",) * 8,))
        self.assertLess(time.time() - began, 20)


if __name__ == "__main__":
    unittest.main()
