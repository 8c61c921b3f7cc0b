"""[21]: runs counted."""

import time
import unittest

import brute
from samples import DEAD, NEST, ORDER, call, course, do, one_course, tall
from stillowed.books import Book
from stillowed.errors import InvalidMove, InvalidNumber, Refused
from stillowed.tallies import nth_run, place_of_run, run_count


class TalliesTest(unittest.TestCase):
    def test_random_books(self):
        for book in brute.mixed_books(101, 200):
            for stage in book.stages():
                found = brute.finishes(book, stage, 7)
                if found is None:
                    continue
                runs = sorted((run for run, _ in found), key=lambda run: (len(run), brute.move_order(run)))
                for many in range(8):
                    self.assertEqual(run_count(book, stage, many), sum(len(run) == many for run in runs))
                for n in list(range(min(len(runs), 6))) + list(range(6, len(runs), 1 + len(runs) // 10)):
                    self.assertEqual(nth_run(book, stage, n), runs[n])
                    self.assertEqual(place_of_run(book, stage, runs[n]), n)

    def test_numbers_both_ways(self):
        book = one_course(2, (1,), do(0, "b", 0), do(0, "a", 1), do(1, "a", 0), call(1, "main", 1))
        for n in list(range(60)) + [1000, 10 ** 5, 10 ** 7]:
            run = nth_run(book, ("main", 0), n)
            self.assertEqual(place_of_run(book, ("main", 0), run), n)

    def test_order(self):
        book = one_course(2, (0, 1), do(0, "b", 1), do(0, "a", 1), do(1, "c", 1))
        self.assertEqual([nth_run(book, ("main", 0), n) for n in range(6)], [
            (("leave",),), (("do", 0), ("leave",)), (("do", 1), ("leave",)), (("do", 0), ("do", 2), ("leave",)),
            (("do", 1), ("do", 2), ("leave",)), (("do", 0), ("do", 2), ("do", 2), ("leave",))])

    def test_none_behind_the_last(self):
        total = sum(run_count(ORDER, ("order", 0), many) for many in range(31))
        self.assertEqual(total, 2)
        self.assertEqual(nth_run(ORDER, ("order", 0), 1)[-1], ("leave",))
        for n in (2, 3, 10 ** 40):
            self.assertIsNone(nth_run(ORDER, ("order", 0), n))
        self.assertIsNone(nth_run(DEAD, ("main", 0), 0))
        loop = one_course(1, (0,), do(0, "a", 0))
        self.assertEqual(nth_run(loop, ("main", 0), 29), (("do", 0),) * 29 + (("leave",),))
        self.assertIsNone(nth_run(loop, ("main", 0), 30))
        self.assertEqual(run_count(NEST, ("main", 0), 2), 1)

    def test_thirty_moves(self):
        loop = one_course(1, (0,), do(0, "a", 0), do(0, "b", 0))
        self.assertEqual(run_count(loop, ("main", 0), 30), 2 ** 29)
        self.assertEqual(run_count(loop, ("main", 0), 0), 0)
        self.assertEqual(nth_run(loop, ("main", 0), 2 ** 30 - 2), (("do", 1),) * 29 + (("leave",),))
        self.assertIsNone(nth_run(loop, ("main", 0), 2 ** 30 - 1))
        self.assertEqual(place_of_run(loop, ("main", 0), (("do", 1),) * 29 + (("leave",),)), 2 ** 30 - 2)
        self.assertEqual(run_count(tall((2,) * 8), ("a", 0), 16), 1)

    def test_wrong_numbers_of_moves(self):
        for value in (None, True, False, -1, 31, 10 ** 30, 1.0, "3", (), [2], {}, object(), (1,)):
            with self.assertRaises(InvalidNumber) as caught:
                run_count(ORDER, ("order", 0), value)
            self.assertEqual(caught.exception.word, "moves")

    def test_long_runs(self):
        loop = one_course(1, (0,), do(0, "a", 0))
        for run in ((("do", 0),) * 30 + (("leave",),), (("do", 5),) * 31, (("leave",),) * 31):
            with self.assertRaises(Refused) as caught:
                place_of_run(loop, ("main", 0), run)
            self.assertEqual(caught.exception.word, "long")
        with self.assertRaises(InvalidMove) as caught:
            place_of_run(loop, ("main", 0), (("do", 0),) * 30)
        self.assertEqual(caught.exception.at, 30)

    def test_wrong_places(self):
        book = Book((course("main", 4, (3,), do(0, "a", 1), call(1, "x", 2), do(2, "b", 3), do(0, "c", 3)),
                     course("x", 2, (1,), do(0, "d", 1)), course("y", 2, (0,), do(0, "d", 1))))
        right = (("do", 0), ("call", 1), ("do", 0), ("leave",), ("do", 2), ("leave",))
        self.assertEqual(place_of_run(book, ("main", 0), right), 1)
        for at in range(len(right) + 1):
            for wrong in (("call", 0), ("do", 9), ("do", 1), ("leave", 0), ("do", -1), ("step", 0)):
                for behind in ((), right[at:], (("do", 99),)):
                    with self.assertRaises(InvalidMove) as caught:
                        place_of_run(book, ("main", 0), right[:at] + (wrong,) + behind)
                    self.assertEqual(caught.exception.at, at)
            if at < len(right):
                with self.assertRaises(InvalidMove) as caught:
                    place_of_run(book, ("main", 0), right[:at])
                self.assertEqual(caught.exception.at, at)
        with self.assertRaises(InvalidMove) as caught:
            place_of_run(book, ("main", 0), right + (("leave",),))
        self.assertEqual(caught.exception.at, len(right))
        # Moves to useless stages are moves, too; but then the end is not reached.
        with self.assertRaises(InvalidMove) as caught:
            place_of_run(book, ("y", 0), (("do", 0),))
        self.assertEqual(caught.exception.at, 1)
        with self.assertRaises(InvalidMove) as caught:
            place_of_run(book, ("y", 0), (("do", 0), ("leave",)))
        self.assertEqual(caught.exception.at, 1)

    def test_books_at_the_limits(self):
        began = time.time()
        names = "abcdefgh"
        courses = []
        for at, name in enumerate(names):
            steps = [call(n % 7, names[(at + n) % 8], (n * 3 + 1) % 7) for n in range(14)]
            courses.append((name, 7, tuple(range(7)), tuple(dict.fromkeys(steps)) + (do(0, "x", 1),)))
        book = Book(tuple(courses))
        for stage in book.stages()[::8]:
            many = sum(run_count(book, stage, moves) for moves in (10, 20, 30))
            self.assertGreater(many, 10 ** 6)
            for n in (0, 12345, 10 ** 9):
                run = nth_run(book, stage, n)
                self.assertEqual(place_of_run(book, stage, run), n)
        self.assertLess(time.time() - began, 20)


if __name__ == "__main__":
    unittest.main()
