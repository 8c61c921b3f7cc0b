"""[14], [15]: ranks and their certificates."""

import random
import time
import unittest

import brute
from samples import DEAD, NEST, ORDER, call, course, do, full_book, one_course, tall
from stillowed.books import Book
from stillowed.useful import check_ranks, check_useless, ranks, useless


def greatest_closed(book):
    """The greatest closed lot, by throwing out what cannot be in it."""
    lot = set(brute.all_stages(book))
    while True:
        left = {s for s in lot if not brute.is_end(book, s)
                and all(set(brute.parts(book, s, k)) & lot for k in brute.leaving(book, s))}
        if left == lot:
            return tuple(sorted(lot))
        lot = left


class RanksTest(unittest.TestCase):
    def test_the_books_of_the_document(self):
        self.assertEqual(ranks(ORDER), {("order", 0): 6, ("order", 1): 5, ("order", 2): 2, ("order", 3): 1,
                                        ("pay", 0): 2, ("pay", 1): 1, ("pay", 2): 2, ("pay", 3): 1})
        self.assertEqual(ranks(NEST), {("main", 0): 2, ("main", 1): 5, ("main", 2): 2, ("main", 3): 1, ("main", 4): 1})
        self.assertEqual(useless(NEST), ())

    def test_a_ring_without_an_end(self):
        self.assertEqual(ranks(DEAD), {("main", 1): 2, ("main", 2): 1})
        self.assertEqual(useless(DEAD), (("main", 0),))
        ring = Book((course("p", 1, (), call(0, "q", 0)), course("q", 2, (1,), call(0, "p", 1))))
        self.assertEqual(ranks(ring), {("q", 1): 1})
        self.assertEqual(useless(ring), (("p", 0), ("q", 0)))

    def test_dead_ends_and_endless_loops(self):
        book = one_course(4, (3,), do(0, "a", 1), do(0, "b", 2), do(1, "a", 1), do(2, "c", 3))
        self.assertEqual(ranks(book), {("main", 0): 3, ("main", 2): 2, ("main", 3): 1})
        self.assertEqual(useless(book), (("main", 1),))
        self.assertEqual(ranks(one_course(1, ())), {})
        self.assertEqual(ranks(one_course(1, (0,))), {("main", 0): 1})
        self.assertEqual(ranks(one_course(2, (1,), do(0, "a", 1), do(1, "a", 0))), {("main", 0): 2, ("main", 1): 1})

    def test_a_call_whose_course_never_ends_counts_as_none(self):
        book = Book((course("main", 2, (1,), call(0, "x", 1), do(0, "a", 1)), course("x", 1, (), do(0, "a", 0))))
        self.assertEqual(ranks(book), {("main", 0): 2, ("main", 1): 1})

    def test_random_books(self):
        for book in brute.mixed_books(11, 300):
            found = ranks(book)
            self.assertEqual(list(found), sorted(brute.useful(book)))
            self.assertEqual(useless(book), greatest_closed(book))
            self.assertTrue(check_ranks(book, found))
            self.assertTrue(check_useless(book, useless(book)))
            for stage in book.stages():
                finishes = brute.finishes(book, stage, 7)
                if finishes:
                    self.assertEqual(found[stage], min(len(run) for run, _ in finishes))
                elif finishes is not None:
                    self.assertGreater(found.get(stage, 99), 7)

    def test_ascending_keys_and_new_dicts(self):
        for book in brute.mixed_books(12, 50):
            found = ranks(book)
            self.assertEqual(list(found), sorted(found))
            found.clear()
            self.assertEqual(len(ranks(book)), len(brute.useful(book)))

    def test_books_at_the_limits(self):
        self.assertEqual(ranks(tall((2,) * 8))[("a", 0)], 16)
        began = time.time()
        rng = random.Random(4)
        for _ in range(20):
            book = full_book(rng)
            self.assertTrue(check_ranks(book, ranks(book)))
            self.assertTrue(check_useless(book, useless(book)))
        self.assertLess(time.time() - began, 5)

    def test_ranks_grow_like_powers(self):
        # Each course calls the next one seven times: 7 * (1 + rank) + 1, eight courses deep.
        counts = (8, 8, 8, 8, 7, 7, 7, 7)
        expected = 7
        for many in counts[-2::-1]:
            expected = (many - 1) * (1 + expected) + 1
        self.assertEqual(ranks(tall(counts))[("a", 0)], expected)


class CertificatesTest(unittest.TestCase):
    def test_useless(self):
        book = one_course(5, (4,), do(0, "a", 1), do(1, "a", 0), do(2, "b", 2), do(3, "a", 4), do(3, "a", 0))
        self.assertEqual(useless(book), (("main", 0), ("main", 1), ("main", 2)))
        for lot in ((), (("main", 2),), (("main", 0), ("main", 1)), (("main", 0), ("main", 1), ("main", 2))):
            self.assertIs(check_useless(book, lot), True, lot)
        for lot in ((("main", 0),), (("main", 3),), (("main", 4),), (("main", 0), ("main", 1), ("main", 3)),
                    (("main", 1), ("main", 0)), (("main", 2), ("main", 2)), (("main", 0), ("main", 1), ("main", 0))):
            self.assertIs(check_useless(book, lot), False, lot)

    def test_a_step_with_one_part_in_the_lot_is_enough(self):
        self.assertTrue(check_useless(DEAD, (("main", 0),)))
        book = Book((course("main", 2, (1,), call(0, "x", 1)), course("x", 1, ())))
        self.assertTrue(check_useless(book, (("main", 0), ("x", 0))))
        self.assertTrue(check_useless(book, (("x", 0),)))
        self.assertFalse(check_useless(book, (("main", 0),)))

    def test_all_lots_of_small_books(self):
        for book in brute.mixed_books(13, 60, courses=2, stages=3):
            stages = brute.all_stages(book)
            for bits in range(2 ** len(stages)):
                lot = tuple(s for at, s in enumerate(stages) if bits >> at & 1)
                closed = not any(brute.is_end(book, s) or any(not set(brute.parts(book, s, k)) & set(lot)
                                 for k in brute.leaving(book, s)) for s in lot)
                self.assertEqual(check_useless(book, lot), closed)
                self.assertFalse(len(lot) > 1 and check_useless(book, lot[::-1]))

    def test_only_the_ranks_pass(self):
        rng = random.Random(5)
        for book in brute.mixed_books(14, 200):
            right = ranks(book)
            for stage in book.stages():
                for change in (-right.get(stage, 0), -1, 1, 2, 5):
                    table = dict(right)
                    table[stage] = table.get(stage, 0) + change
                    self.assertEqual(check_ranks(book, table), table == right)
                table = {s: n for s, n in right.items() if s != stage}
                self.assertEqual(check_ranks(book, table), stage not in right)
            table = {s: n + rng.randint(0, 2) for s, n in right.items()}
            self.assertEqual(check_ranks(book, table), table == right)
            keys = list(right)
            rng.shuffle(keys)
            self.assertTrue(check_ranks(book, {s: right[s] for s in keys}), "the order of keys does not matter")

    def test_loops_with_small_numbers(self):
        book = one_course(2, (), do(0, "a", 1), do(1, "a", 0))
        self.assertTrue(check_ranks(book, {}))
        for one, other in ((1, 2), (2, 1), (0, -1), (1, 1), (3, 3)):
            self.assertFalse(check_ranks(book, {("main", 0): one, ("main", 1): other}))
        book = one_course(1, ())
        self.assertFalse(check_ranks(book, {("main", 0): 1}))
        book = one_course(1, (0,))
        self.assertFalse(check_ranks(book, {("main", 0): 0}))
        self.assertFalse(check_ranks(book, {}))

    def test_nothing_passed_is_changed(self):
        table = ranks(ORDER)
        check_ranks(ORDER, table)
        self.assertEqual(table, ranks(ORDER))
        self.assertEqual(list(table), sorted(table))


if __name__ == "__main__":
    unittest.main()
