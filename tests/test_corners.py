"""[51]: counts that are cheapest at some prices, and mixtures that show that others are not."""

import itertools
import random
import time
import unittest

import brute
from stillowed.corners import Corner, Mixed, check_corner, corner, corners
from stillowed.counts import least_counts
from stillowed.prices import price_steps

LINE = ((0, 4), (3, 3), (4, 0))


def is_corner(counts, at, prices):
    cost = [sum(a * b for a, b in zip(prices, count)) for count in counts]
    return all(price >= 1 for price in prices) and cost[at] == min(cost)


def is_mixed(counts, at, shares):
    every = sum(shares)
    many = range(len(counts[0]))
    together = [sum(share * count[deed] for share, count in zip(shares, counts)) for deed in many]
    alone = [every * counts[at][deed] for deed in many]
    return all(a <= b for a, b in zip(together, alone)) and together != alone and all(share >= 0 for share in shares)


class CornersTest(unittest.TestCase):
    def test_the_example(self):
        self.assertEqual(corners(LINE), (0, 2))
        self.assertTrue(check_corner(LINE, 1, Mixed((1, 0, 1))))

    def test_small_counts(self):
        for counts, wanted in ((((5,),), (0,)), (((5,), (4,)), (1,)), (((4,), (4,)), (0, 1)), (((),), (0,)),
                               (((), ()), (0, 1)), (((0, 0), (1, 0)), (0,)), (((0, 2), (1, 1), (2, 0)), (0, 1, 2)),
                               (((0, 4), (2, 2), (2, 2), (4, 0)), (0, 1, 2, 3)), (((0, 4), (2, 1), (4, 0)), (0, 1, 2)),
                               (((0, 3), (2, 2), (3, 0)), (0, 2)), (((1, 1, 0), (0, 1, 1), (1, 0, 1)), (0, 1, 2)),
                               (((2, 0, 0), (0, 2, 0), (0, 0, 2), (1, 1, 1)), (0, 1, 2)),
                               (((3, 0, 0), (0, 3, 0), (0, 0, 3), (1, 1, 1)), (0, 1, 2, 3)),
                               (((1, 0), (0, 1), (1, 1)), (0, 1)), (((7, 7), (7, 7)), (0, 1)),
                               (((7, 7), (7, 7), (7, 6)), (2,))):
            self.assertEqual(corners(counts), wanted, counts)
            for at in range(len(counts)):
                value = corner(counts, at)
                self.assertIsInstance(value, Corner if at in wanted else Mixed)
                self.assertTrue(check_corner(counts, at, value))

    def test_on_a_line_between_others(self):
        # Beside a line of counts with equal prices there is a corner; a little above it there is none.
        for counts, wanted in ((((0, 6), (2, 4), (6, 0)), (0, 1, 2)), (((0, 60), (20, 41), (60, 0)), (0, 2)),
                               (((0, 60), (20, 39), (60, 0)), (0, 1, 2))):
            self.assertEqual(corners(counts), wanted)

    def test_random_counts(self):
        rng = random.Random(511)
        seen = {Corner: 0, Mixed: 0}
        for _ in range(500):
            deeds = rng.randint(1, 4)
            top = rng.choice([1, 3, 6])
            counts = tuple(tuple(rng.randint(0, top) for _ in range(deeds)) for _ in range(rng.randint(1, 7)))
            kinds = []
            for at in range(len(counts)):
                value = corner(counts, at)
                kinds.append(type(value))
                seen[type(value)] += 1
                if isinstance(value, Corner):
                    self.assertEqual(vars(value), {"prices": value.prices})
                    self.assertTrue(is_corner(counts, at, value.prices), (counts, at, value.prices))
                    self.assertEqual(len(value.prices), deeds)
                else:
                    self.assertEqual(vars(value), {"shares": value.shares})
                    self.assertTrue(is_mixed(counts, at, value.shares), (counts, at, value.shares))
                    self.assertEqual(len(value.shares), len(counts))
            self.assertEqual(corners(counts), tuple(at for at, kind in enumerate(kinds) if kind is Corner))
        self.assertGreater(min(seen.values()), 300)

    def test_cheapest_ones_have_corners(self):
        rng = random.Random(512)
        for _ in range(60):
            counts = tuple(tuple(rng.randint(0, 5) for _ in range(3)) for _ in range(6))
            found = set(corners(counts))
            for prices in itertools.product(range(1, 6), repeat=3):
                for at in range(len(counts)):
                    if is_corner(counts, at, prices):
                        self.assertIn(at, found)

    def test_choices_of_price_steps_and_least_counts(self):
        for book in brute.mixed_books(513, 120):
            for counts in list(least_counts(book).values())[:3]:
                if len(counts) > 1 and len(counts[0]) > 1:
                    ones = (1,) * len(counts[0])
                    found = corners(counts)
                    self.assertTrue(found)
                    # From the price 1 on, the choices are cheapest at some prices from 1 on.
                    for price, choice in price_steps(counts, ones, 0)[1:]:
                        self.assertIn(choice, found)


class CheckTest(unittest.TestCase):
    def test_each_condition(self):
        for value, wanted in ((Mixed((1, 0, 1)), True), (Mixed((3, 0, 2)), True), (Mixed((1, 5, 1)), True),
                              (Mixed((0, 0, 0)), False), (Mixed((0, 1, 0)), False), (Mixed((1, 0, 0)), False),
                              (Mixed((1, 0, -1)), False), (Mixed((1, 0)), False), (Mixed((1, 0, 1, 0)), False),
                              (Mixed([1, 0, 1]), False), (Mixed((1.0, 0, 1)), False), (Mixed((True, 0, 1)), False),
                              (Mixed((1, -1, 1)), False), (Mixed(None), False), (Mixed(()), False), (Mixed(("1", 0, 1)), False),
                              (Corner((1, 1)), False), (Corner((1, 0, 1)), False)):
            self.assertEqual(check_corner(LINE, 1, value), wanted, vars(value))
        for value, wanted in ((Corner((4, 1)), True), (Corner((2, 1)), True), (Corner((1, 1)), True), (Corner((1, 2)), False),
                              (Corner((4, 0)), False), (Corner((0, 0)), False), (Corner((4,)), False), (Corner((4, 1, 1)), False),
                              (Corner([4, 1]), False), (Corner((4, True)), False), (Corner((4.0, 1)), False),
                              (Corner((4, -1)), False), (Corner(None), False), (Corner(("4", "1")), False),
                              (Mixed((0, 0, 1)), False), (Mixed((1, 0, 1)), False), (Mixed((4, 1)), False)):
            self.assertEqual(check_corner(LINE, 0, value), wanted, vars(value))
        # Equal counts on both sides are no mixture with less of some deed.
        self.assertFalse(check_corner(((0, 2), (1, 1), (2, 0)), 1, Mixed((1, 0, 1))))
        self.assertTrue(check_corner(((0, 2), (1, 1), (2, 0)), 1, Corner((3, 3))))
        self.assertFalse(check_corner(((0, 2), (1, 1), (2, 0)), 1, Corner((3, 2))))
        # Prices at which some other count is cheaper, and which only the last one shows.
        self.assertFalse(check_corner(((1, 1), (2, 2), (0, 1)), 0, Corner((1, 1))))

    def test_any_values(self):
        for value in brute.ODD_VALUES + [Corner, Mixed, [1, 1], [1, 0, 1]]:
            for counts in (LINE, ((1,),), ((),)):
                self.assertIs(check_corner(counts, 0, value), False)
            self.assertIs(check_corner(LINE, 0, Corner(value)), False)
            self.assertIs(check_corner(LINE, 1, Mixed(value)), False)
        self.assertIs(check_corner(((),), 0, Corner(())), True)
        self.assertIs(check_corner(((),), 0, Mixed((0,))), False)

    def test_just_one_of_both(self):
        rng = random.Random(514)
        for _ in range(200):
            counts = tuple(tuple(rng.randint(0, 3) for _ in range(2)) for _ in range(4))
            for at in range(4):
                a_corner = any(check_corner(counts, at, Corner(p)) for p in itertools.product(range(1, 8), repeat=2))
                a_mixture = any(check_corner(counts, at, Mixed(s)) for s in itertools.product(range(4), repeat=4))
                self.assertEqual(a_corner, isinstance(corner(counts, at), Corner))
                self.assertEqual(a_mixture, isinstance(corner(counts, at), Mixed))


class LimitsTest(unittest.TestCase):
    def test_many_counts(self):
        began = time.time()
        rng = random.Random(515)
        for top in (2, 9, 10 ** 12):
            counts = tuple(tuple(rng.randint(0, top) for _ in range(12)) for _ in range(60))
            found = corners(counts)
            self.assertTrue(0 < len(found) <= 60)
            for at in (0, 1, 2):
                self.assertTrue(check_corner(counts, at, corner(counts, at)))
        self.assertLess(time.time() - began, 10)

    def test_arguments_stay(self):
        counts = [(0, 4), (3, 3)]
        told = tuple(counts)
        corner(told, 1)
        self.assertEqual(told, ((0, 4), (3, 3)))


if __name__ == "__main__":
    unittest.main()
