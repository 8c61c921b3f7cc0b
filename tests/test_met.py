"""[16]: met stages and the first runs to them."""

import random
import time
import unittest

import brute
from samples import DEAD, NEST, ORDER, call, chain_of_rank, course, do, full_book, one_course, tall
from stillowed.books import Book
from stillowed.errors import NoEnding, Refused
from stillowed.met import check_met, met, run_to


def after_rank(rank):
    """A book whose main course calls a course of the given rank and goes on at ("main", 1) after rank + 1 moves."""
    inner = chain_of_rank(rank)
    return Book((course("main", 2, (1,), call(0, "a", 1)),) + inner.courses)


class MetTest(unittest.TestCase):
    def test_the_book_of_the_document(self):
        self.assertEqual(run_to(ORDER, ("order", 2)), (("do", 0), ("call", 1), ("do", 0), ("leave",)))
        self.assertEqual(met(ORDER), {("order", 0): 0, ("order", 1): 1, ("order", 2): 4, ("order", 3): 5,
                                      ("pay", 0): 2, ("pay", 1): 3, ("pay", 2): 3, ("pay", 3): 4})
        self.assertEqual(run_to(ORDER, ("order", 0)), ())

    def test_empty_if_the_start_is_not_useful(self):
        self.assertEqual(met(DEAD), {})
        self.assertTrue(check_met(DEAD, {}))
        self.assertFalse(check_met(DEAD, {("main", 0): 0}))

    def test_only_useful_stages_are_walked_through(self):
        # From stage 0 a deed leads to a dead end, a call to a course that never ends.
        book = Book((course("main", 4, (3,), do(0, "a", 1), call(0, "x", 2), do(0, "b", 3), do(1, "a", 1)),
                     course("x", 2, (), do(0, "a", 1), do(1, "a", 0))))
        self.assertEqual(met(book), {("main", 0): 0, ("main", 3): 1})

    def test_a_called_course_that_ends_but_whose_caller_does_not_go_on(self):
        book = Book((course("main", 3, (2,), call(0, "x", 1), do(0, "a", 2)), course("x", 1, (0,))))
        self.assertEqual(met(book), {("main", 0): 0, ("main", 2): 1})
        with self.assertRaises(Refused) as caught:
            run_to(book, ("x", 0))
        self.assertEqual(caught.exception.word, "unmet")

    def test_random_books(self):
        for book in brute.mixed_books(21, 400):
            found = met(book)
            self.assertEqual(list(found), sorted(found))
            good = brute.useful(book)
            first = ((book.main(), 0),)
            if first[0] not in good:
                self.assertEqual(found, {})
                continue
            runs = brute.runs(book, first, 7, only_useful=True)
            if runs is None:
                continue
            best = {}
            for run, moment, _ in runs:
                if moment:
                    best.setdefault(moment[0], []).append(run)
            for stage in book.stages():
                if stage in best:
                    least = len(best[stage][0])
                    self.assertEqual(found[stage], least)
                    expected = min((run for run in best[stage] if len(run) == least), key=brute.move_order)
                    self.assertEqual(run_to(book, stage), expected)
                else:
                    self.assertGreater(found.get(stage, 99), 7)

    def test_runs_of_equal_length(self):
        # Leaving goes before steps: both ways to ("x", 0) take three moves behind the first call.
        book = Book((course("main", 3, (2,), call(0, "y", 1), call(1, "x", 2)),
                     course("y", 3, (0, 2), do(0, "a", 1), call(1, "x", 2)), course("x", 2, (0, 1), do(0, "a", 1))))
        self.assertEqual(run_to(book, ("x", 0)), (("call", 0), ("leave",), ("call", 1)))
        # Steps go by their numbers, not by what they do.
        book = one_course(4, (3,), do(0, "z", 2), do(0, "a", 1), do(2, "a", 3), do(1, "a", 3))
        self.assertEqual(run_to(book, ("main", 3)), (("do", 0), ("do", 2)))
        # Step 10 goes behind step 9.
        steps = [do(0, "a", 1)] + [do(0, word, 2) for word in "bcdefghi"] + [do(0, "a", 4), do(0, "a", 3)]
        steps += [do(3, "a", 5), do(4, "a", 5)]
        book = one_course(6, (1, 2, 5), *steps)
        self.assertEqual(run_to(book, ("main", 5)), (("do", 9), ("do", 12)))
        # The calls passed on the way are passed in the first of the shortest ways, too.
        book = Book((course("main", 2, (1,), call(0, "x", 1)),
                     course("x", 4, (3,), do(0, "b", 1), do(0, "a", 2), do(1, "b", 3), do(2, "a", 3))))
        self.assertEqual(run_to(book, ("main", 1)), (("call", 0), ("do", 0), ("do", 2), ("leave",)))

    def test_going_into_a_call_or_past_it(self):
        # ("x", 0) is nearer inside the second call than by passing the first one and entering another one.
        book = Book((course("main", 3, (2,), call(0, "x", 1), call(1, "y", 2), call(0, "y", 1)),
                     course("y", 2, (1,), call(0, "x", 1)), course("x", 6, (5,), *[do(n, "a", n + 1) for n in range(5)])))
        self.assertEqual(met(book)[("y", 0)], 1)
        self.assertEqual(run_to(book, ("y", 0)), (("call", 2),))
        self.assertEqual(run_to(book, ("y", 1))[:2], (("call", 2), ("call", 0)))

    def test_no_leaving_where_the_course_may_not_end(self):
        # From ("y", 0) the goal is two moves away, from ("main", 1) below it one move; but y ends later.
        book = Book((course("main", 3, (2,), call(0, "y", 1), call(1, "x", 2)),
                     course("y", 4, (3,), do(0, "a", 1), call(1, "x", 2), do(2, "a", 3)), course("x", 1, (0,))))
        self.assertEqual(run_to(book, ("x", 0)), (("call", 0), ("do", 0), ("call", 1)))

    def test_errors_in_their_order(self):
        for book, stage, error, value in (
                (DEAD, ("main", 0), NoEnding, ("main", 0)),
                (DEAD, ("main", 1), Refused, "unmet"),
                (one_course(2, (0,)), ("main", 1), NoEnding, ("main", 1)),
                (one_course(2, (0, 1)), ("main", 1), Refused, "unmet"),
                (one_course(3, (0,), do(0, "a", 1)), ("main", 1), NoEnding, ("main", 1))):
            with self.assertRaises(error) as caught:
                run_to(book, stage)
            self.assertEqual(list(vars(caught.exception).values()), [value])

    def test_the_limit_of_moves(self):
        for rank, many in ((19999, 20000), (19998, 19999), (1000, 1001)):
            run = run_to(after_rank(rank), ("main", 1))
            self.assertEqual(len(run), many)
            self.assertEqual(met(after_rank(rank))[("main", 1)], many)
            self.assertEqual(run[-1], ("leave",))
        for rank in (20000, 20001, 40000):
            self.assertEqual(met(after_rank(rank))[("main", 1)], rank + 1)
            with self.assertRaises(Refused) as caught:
                run_to(after_rank(rank), ("main", 1))
            self.assertEqual(caught.exception.word, "long")

    def test_unmet_goes_before_long(self):
        far = after_rank(30000)
        book = Book((course("main", 3, (1, 2), call(0, "a", 1)),) + far.courses[1:])
        for stage, word in ((("main", 2), "unmet"), (("main", 1), "long")):
            with self.assertRaises(Refused) as caught:
                run_to(book, stage)
            self.assertEqual(caught.exception.word, word)

    def test_check_met(self):
        for book in brute.mixed_books(22, 150):
            right = met(book)
            self.assertTrue(check_met(book, right))
            self.assertTrue(check_met(book, {s: right[s] for s in reversed(list(right))}))
            for stage in book.stages():
                for change in (-1, 1, 3):
                    table = dict(right)
                    table[stage] = table.get(stage, 0) + change
                    self.assertEqual(check_met(book, table), table == right)
                self.assertEqual(check_met(book, {s: n for s, n in right.items() if s != stage}), stage not in right)

    def test_rings_and_chains_at_the_limits(self):
        began = time.time()
        for counts in ((8, 8, 8, 8, 7, 7, 7, 7), (2,) * 8, (20, 20, 20), (3, 20, 20)):
            book = tall(counts)
            self.assertEqual(len(met(book)), sum(counts))
            for stage in book.stages():
                if met(book)[stage] <= 20000:
                    self.assertEqual(len(run_to(book, stage)), met(book)[stage])
        rng = random.Random(6)
        for _ in range(10):
            book = full_book(rng)
            for stage, many in met(book).items():
                self.assertEqual(len(run_to(book, stage)), many)
        self.assertEqual(met(NEST)[("main", 2)], 4)
        self.assertLess(time.time() - began, 20)


if __name__ == "__main__":
    unittest.main()
