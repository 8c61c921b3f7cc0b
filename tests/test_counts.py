"""[46], [47], [50]: counts, floors, deeds that go together, least counts."""

import itertools
import random
import time
import unittest

import brute
from samples import DEAD, NEST, ORDER, TORN, call, course, do, full_book, one_course, tall
from stillowed.books import Book
from stillowed.counts import check_counts, conflict, deed_counts, floors, goes_together, least_counts
from stillowed.errors import NoEnding, Refused

SIZE = 6


def count(book, row):
    return tuple(row.count(deed) for deed in book.deeds())


def at_most(one, other):
    return all(x <= y for x, y in zip(one, other))


def least_of(counts):
    """The least ones of some counts, in order."""
    found = [c for c in counts if not any(d != c and at_most(d, c) for d in counts)]
    return tuple(sorted(found, key=lambda c: (sum(c), c)))


def fan(many):
    """A book whose main course has so many least counts: as many unlike pairs of deeds."""
    words = "abcdefghijkl"
    pairs = list(itertools.combinations(words, 2))[:many]
    steps = [do(0, word, 1 + words.index(word)) for word in sorted({x for x, _ in pairs})]
    steps += [do(1 + words.index(x), y, 13) for x, y in pairs]
    return one_course(14, (13,), *steps)


class FloorsTest(unittest.TestCase):
    def test_counts_of_rows(self):
        self.assertEqual(deed_counts(ORDER, ("take", "card", "card", "send")), (2, 1, 0, 1))
        self.assertEqual(deed_counts(ORDER, ()), (0, 0, 0, 0))
        self.assertEqual(deed_counts(one_course(1, ()), ()), ())

    def test_small_books(self):
        self.assertEqual(floors(ORDER)[("order", 0)], (1, 1, 0, 1))
        self.assertEqual(floors(TORN)[("main", 0)], (0, 0, 0))
        self.assertEqual(floors(DEAD), {("main", 1): (1,), ("main", 2): (0,)})
        self.assertEqual(floors(NEST)[("main", 1)], (0, 1, 1))
        self.assertEqual(floors(tall((8, 8, 8, 8, 7, 7, 7, 7)))[("a", 0)], (7 ** 4 * 6 ** 4,))

    def test_random_books(self):
        for book in brute.mixed_books(111, 200):
            found = floors(book)
            listed = brute.endings(book, SIZE)
            self.assertEqual(list(found), sorted(brute.useful(book)))
            for stage in found:
                for at in range(len(book.deeds())):
                    best = min([count(book, row)[at] for row in listed[stage]], default=SIZE + 1)
                    self.assertLessEqual(found[stage][at], best)
                    # Whoever has the deed least often may need more than so many deeds, but not if there is one without.
                    if found[stage][at] < best:
                        self.assertGreater(min_length_with(book, stage, at, found[stage][at]), SIZE)


def min_length_with(book, stage, at, many):
    """The least number of deeds of an ending that has the deed number `at` so often, by the least counts."""
    return min(sum(c) for c in least_counts(book)[stage] if c[at] == many)


class TogetherTest(unittest.TestCase):
    def test_small_books(self):
        self.assertFalse(goes_together(TORN, ("main", 0), ("card", "cash")))
        self.assertTrue(goes_together(TORN, ("main", 0), ("cash", "stamp")))
        self.assertTrue(goes_together(TORN, ("main", 0), ()))
        self.assertEqual(conflict(TORN, ("main", 0)), ("card", "stamp"))
        self.assertIsNone(conflict(ORDER, ("order", 0)))
        self.assertIsNone(conflict(one_course(1, (0,)), ("main", 0)))

    def test_no_ending(self):
        for function, told in ((goes_together, ((),)), (goes_together, (("a",),)), (conflict, ())):
            with self.assertRaises(NoEnding) as caught:
                function(DEAD, ("main", 0), *told)
            self.assertEqual(caught.exception.stage, ("main", 0))
        self.assertIsNone(conflict(DEAD, ("main", 1)))

    def test_three_deeds_of_which_any_two_go_together(self):
        book = one_course(2, (1,), do(0, "a", 1), do(0, "b", 1), do(0, "c", 1))
        self.assertEqual(conflict(book, ("main", 0)), ("a", "b", "c"))
        for lot in itertools.combinations("abc", 2):
            self.assertTrue(goes_together(book, ("main", 0), lot))

    def test_random_books(self):
        conflicts = 0
        for book in brute.mixed_books(112, 250):
            least = least_counts(book)
            for stage in least:
                low = floors(book)[stage]
                deeds = book.deeds()
                together = {}
                for many in range(len(deeds) + 1):
                    for lot in itertools.combinations(deeds, many):
                        places = [deeds.index(deed) for deed in lot]
                        together[lot] = any(all(c[p] == low[p] for p in places) for c in least[stage])
                        self.assertIs(goes_together(book, stage, lot), together[lot])
                found = conflict(book, stage)
                if together[deeds]:
                    self.assertIsNone(found)
                else:
                    conflicts += 1
                    self.assertFalse(together[found])
                    for deed in found:
                        self.assertTrue(together[tuple(d for d in found if d != deed)])
        self.assertGreater(conflicts, 30)


class LeastCountsTest(unittest.TestCase):
    def test_small_books(self):
        self.assertEqual(least_counts(TORN)[("main", 0)], ((1, 0, 0), (0, 1, 1)))
        self.assertEqual(least_counts(ORDER)[("order", 0)], ((1, 1, 0, 1),))
        self.assertEqual(least_counts(DEAD), {("main", 1): ((1,),), ("main", 2): ((0,),)})
        self.assertEqual(least_counts(one_course(1, (0,))), {("main", 0): ((),)})

    def test_order_of_equal_sums(self):
        book = one_course(4, (3,), do(0, "b", 3), do(0, "a", 3), do(0, "c", 1), do(1, "c", 3), call(0, "main", 3))
        self.assertEqual(least_counts(book)[("main", 0)], ((0, 1, 0), (1, 0, 0), (0, 0, 2)))
        # Equal sums may be found late: by calls that cost nothing.
        book = Book((course("main", 2, (1,), do(0, "b", 1), call(0, "x", 1)), course("x", 1, (), call(0, "y", 0)),
                     course("y", 2, (1,), do(0, "a", 1))))
        self.assertEqual(least_counts(book)[("main", 0)], ((0, 1),))
        book = Book((course("main", 2, (1,), do(0, "b", 1), call(0, "x", 1)), course("x", 2, (1,), call(0, "y", 1)),
                     course("y", 2, (1,), do(0, "a", 1))))
        self.assertEqual(least_counts(book)[("main", 0)], ((0, 1), (1, 0)))
        self.assertTrue(check_counts(book, least_counts(book)))

    def test_random_books(self):
        for book in brute.mixed_books(113, 300):
            found = least_counts(book)
            self.assertEqual(list(found), sorted(brute.useful(book)))
            listed = brute.endings(book, SIZE)
            for stage in found:
                expected = least_of({count(book, row) for row in listed[stage]})
                self.assertEqual(tuple(c for c in found[stage] if sum(c) <= SIZE), expected)
                self.assertEqual(found[stage], least_of(set(found[stage])))
            self.assertIs(check_counts(book, found), True)

    def test_greater_books_by_closure(self):
        large = 0
        for book in brute.forward_books(116, 200, courses=4, stages=6, deeds=8, call_odds=0.5, end_odds=0):
            try:
                table = least_counts(book)
            except Refused:
                continue
            self.assertEqual(list(table), sorted(brute.useful(book)))
            for stage, counts in table.items():
                made = {count(book, ())} if brute.is_end(book, stage) else set()
                for k in brute.leaving(book, stage):
                    step, parts = book.steps(stage[0])[k], brute.parts(book, stage, k)
                    if all(part in table for part in parts):
                        firsts = (count(book, (step[2],)),) if step[1] == "do" else table[parts[0]]
                        made |= {tuple(map(sum, zip(x, y))) for x in firsts for y in table[parts[-1]]}
                self.assertEqual(counts, least_of(made))
                large += any(sum(one) > SIZE for one in counts)
        self.assertGreater(large, 10)

    def test_sixty_and_beyond(self):
        book = fan(60)
        self.assertEqual(len(least_counts(book)[("main", 0)]), 60)
        self.assertTrue(check_counts(book, least_counts(book)))
        for many in (61, 62, 66):
            book = fan(many)
            with self.assertRaises(Refused) as caught:
                least_counts(book)
            self.assertEqual(caught.exception.word, "wide")
        # A stage that is not met counts, too; but not counts that are none of the least ones.
        book = fan(61)
        with self.assertRaises(Refused):
            least_counts(Book((course("a", 1, (0,)),) + book.courses))
        with_end = one_course(14, (0, 13), *book.courses[0][3])
        self.assertEqual(least_counts(with_end)[("main", 0)], ((0,) * 12,))

    def test_the_check_knows_no_limit(self):
        for many in (61, 66):
            book = fan(many)
            table = {("main", n): tuple() for n in range(14)}
            for stage, rows in brute.endings(book, 2).items():
                table[stage] = least_of({count(book, row) for row in rows})
            table = {stage: counts for stage, counts in table.items() if counts}
            self.assertTrue(check_counts(book, table))
            table[("main", 0)] = table[("main", 0)][:60]
            self.assertFalse(check_counts(book, table))

    def test_one_thing_changed(self):
        for book in brute.mixed_books(114, 120):
            right = least_counts(book)
            for stage in book.stages():
                if stage not in right:
                    for counts in ((), (count(book, ()),)):
                        self.assertFalse(check_counts(book, {**right, stage: counts}))
                    continue
                self.assertFalse(check_counts(book, {s: c for s, c in right.items() if s != stage}))
                self.assertFalse(check_counts(book, {**right, stage: ()}))
                counts = right[stage]
                for at, one in enumerate(counts):
                    self.assertFalse(check_counts(book, {**right, stage: counts[:at] + counts[at + 1:]}))
                    self.assertFalse(check_counts(book, {**right, stage: counts[:at] + (one, one) + counts[at + 1:]}))
                    for place in range(len(one)):
                        for change in (-1, 1):
                            other = one[:place] + (one[place] + change,) + one[place + 1:]
                            if other[place] >= 0:
                                changed = counts[:at] + (other,) + counts[at + 1:]
                                self.assertFalse(check_counts(book, {**right, stage: changed}))
                                self.assertFalse(check_counts(book, {**right, stage: counts + (other,)}))
                if len(counts) > 1:
                    self.assertFalse(check_counts(book, {**right, stage: counts[::-1]}))
            self.assertTrue(check_counts(book, dict(reversed(list(right.items())))))

    def test_books_at_the_limits(self):
        began = time.time()
        self.assertEqual(least_counts(tall((8, 8, 8, 8, 7, 7, 7, 7)))[("a", 0)], ((7 ** 4 * 6 ** 4,),))
        rng = random.Random(115)
        for _ in range(15):
            book = full_book(rng)
            for stage in list(floors(book))[::11]:
                conflict(book, stage)
            try:
                found = least_counts(book)
            except Refused:
                continue
            self.assertTrue(check_counts(book, found))
        self.assertLess(time.time() - began, 20)


if __name__ == "__main__":
    unittest.main()
