"""[19]: how long least endings can be."""

import unittest

import brute
from samples import DEAD, NEST, ORDER, call, course, do, one_course, tall
from stillowed.bounds import length_bound, tallest
from stillowed.books import Book
from stillowed.errors import Refused
from stillowed.lengths import lengths, plain


class BoundsTest(unittest.TestCase):
    def test_the_product(self):
        self.assertEqual(length_bound(ORDER), 9)
        self.assertEqual(length_bound(NEST), 4)
        self.assertEqual(length_bound(DEAD), 2)
        self.assertEqual(length_bound(one_course(1, ())), 1)
        self.assertEqual(length_bound(Book((course("a", 1, ()), course("b", 1, ())))), 1)
        self.assertEqual(length_bound(Book((course("a", 1, ()), course("b", 7, ()), course("c", 2, ())))), 6)

    def test_the_tallest_book(self):
        book = tallest((3, 2, 4))
        self.assertEqual(book.courses, (
            course("a", 3, (2,), call(0, "b", 1), call(1, "b", 2)), course("b", 2, (1,), call(0, "c", 1)),
            course("c", 4, (3,), do(0, "x", 1), do(1, "x", 2), do(2, "x", 3))))
        self.assertEqual(tallest((2,)).courses, (course("a", 2, (1,), do(0, "x", 1)),))
        for counts in ((2,), (20,), (2, 2), (20, 20, 20), (8, 8, 8, 8, 7, 7, 7, 7), (2,) * 8, (20, 2, 20, 18)):
            book = tallest(counts)
            self.assertEqual(book, tall(counts))
            found = lengths(book, plain(book))
            self.assertEqual(found[("a", 0)], length_bound(book))

    def test_wrong_counts(self):
        for counts in ((), (2,) * 9, (1,), (0,), (21,), (2, 1), (1, 2), (2, 21), (20, 20, 20, 2), (20, 20, 21),
                       (8, 8, 8, 8, 8, 8, 8, 5), (10 ** 30,), (2, 2, 2, 2, 2, 2, 2, 2, 2), (30, 30), (0, 0, 20)):
            with self.assertRaises(Refused) as caught:
                tallest(counts)
            self.assertEqual(caught.exception.word, "counts")

    def test_no_least_length_is_greater(self):
        for book in brute.mixed_books(91, 300):
            bound = length_bound(book)
            for (name, number), length in lengths(book, plain(book)).items():
                many = dict((course[0], course[1]) for course in book.courses)[name]
                self.assertLessEqual(length, bound if number == 0 else bound * (many - 1))


if __name__ == "__main__":
    unittest.main()
