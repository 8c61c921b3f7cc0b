"""[65]: debts by open calls."""

import math
import random
import time
import unittest

import brute
import tables
from brute import ODD_VALUES
from samples import NEST, ORDER, call, course, do, full_book, one_course, tall
from stillowed.books import Book
from stillowed.debts import Ring, debt, greatest_debt
from stillowed.depths import Slope, check_slope, debts_at, deepest, least_depth, slope
from stillowed.errors import InvalidNumber
from stillowed.lengths import plain
from stillowed.moments import check_moment
from stillowed.owed import OwedTable, court

TABLE = court(ORDER, plain(ORDER))
NESTED = court(NEST, plain(NEST))
# Each call leaves no debt behind.
FREE_RING = court(one_course(3, (1, 2), call(0, "main", 1), do(0, "a", 2)), {"a": ("a",)})


def ring_book(gains):
    """Courses that call one another in a ring, the rest of each call owing so many deeds."""
    names = "abcdefgh"
    made = []
    for at, gain in enumerate(gains):
        many = max(2, gain + 2)
        steps = [call(0, names[(at + 1) % len(gains)], many - 1 - gain)]
        steps += [do(n, "x", n + 1) for n in range(many - 1 - gain, many - 1)]
        made.append((names[at], many, (0, many - 1) if gain == 0 else (many - 1,), tuple(steps)))
    last = made[-1]
    made[-1] = (last[0], last[1], last[2], last[3] + ((0, "do", "y", last[1] - 1),))
    return Book(tuple(made))


def by_depths(table, most):
    """For each number of open calls up to `most`: the debts of all its moments, by trying all; None beyond a limit."""
    book = table.book
    level = {((book.main(), 0),)}
    good = brute.useful(book)
    found = set(level)
    waiting = list(level)
    while waiting:
        moment = waiting.pop()
        for move in brute.let(book, good, moment):
            after = brute.behind(book, moment, move)
            if after not in found and len(after) <= most + 4:
                found.add(after)
                waiting.append(after)
        if len(found) > 4000:
            return None
    sizes = {}
    for moment in found:
        if moment:
            sizes.setdefault(len(moment) - 1, []).append(len(table.owed(moment)))
    return [sizes.get(depth) for depth in range(most + 1)]


class DepthTest(unittest.TestCase):
    def test_small_books(self):
        self.assertEqual(debts_at(TABLE, 0), (0, 3))
        self.assertEqual(debts_at(TABLE, 1), (1, 2))
        self.assertIsNone(debts_at(TABLE, 2))
        self.assertIsNone(debts_at(TABLE, 10 ** 18))
        self.assertEqual((deepest(TABLE), least_depth(TABLE, 3), least_depth(TABLE, 4)), (1, 0, None))
        self.assertEqual([debts_at(NESTED, depth) for depth in (0, 1, 7)], [(0, 2), (1, 3), (7, 9)])
        self.assertEqual(debts_at(NESTED, 10 ** 18), (10 ** 18, 10 ** 18 + 2))
        self.assertEqual((deepest(NESTED), least_depth(NESTED, 0), least_depth(NESTED, 2), least_depth(NESTED, 3)),
                         (None, 0, 0, 1))
        self.assertEqual(least_depth(NESTED, 10 ** 18), 10 ** 18 - 2)
        self.assertEqual((deepest(FREE_RING), debts_at(FREE_RING, 10 ** 18), least_depth(FREE_RING, 1)),
                         (None, (0, 1), 0))
        self.assertIsNone(least_depth(FREE_RING, 2))

    def test_against_moments(self):
        rings = 0
        for table in tables.clear_tables(51, 220):
            right = by_depths(table, 3)
            if right is None:
                continue
            for depth, debts in enumerate(right):
                self.assertEqual(debts_at(table, depth), None if debts is None else (min(debts), max(debts)))
            many = deepest(table)
            rings += many is None
            if many is not None and many <= 3:
                self.assertEqual(many, max(depth for depth in range(4) if right[depth]))
            for wanted in range(8):
                depths = [depth for depth in range(4) if right[depth] and max(right[depth]) >= wanted]
                found = least_depth(table, wanted)
                if depths:
                    self.assertEqual(found, depths[0])
                else:
                    self.assertTrue(found is None or found > 3)
        self.assertGreater(rings, 20)

    def test_great_depths(self):
        for gains in ((1,), (0, 2), (3, 0, 0, 0, 0, 1), (1, 0, 0, 0, 0, 0, 0, 0), (0,) * 8, (2, 5, 1)):
            book = ring_book(gains)
            table = court(book, {"x": ("x",), "y": ()})
            self.assertIsInstance(table, OwedTable)
            lap = sum(gains)
            for depth in (len(gains) * 5, len(gains) * 10 ** 17):
                near = debts_at(table, depth % len(gains))
                self.assertEqual(debts_at(table, depth), tuple(n + depth // len(gains) * lap for n in near))
            for wanted in (0, 1, 5, 1000, 10 ** 18 - 1, 10 ** 18):
                found = least_depth(table, wanted)
                if lap == 0:
                    self.assertEqual(found, 0 if wanted == 0 else found)
                    continue
                self.assertGreaterEqual(self.greatest(table, found, len(gains), lap), wanted)
                if found:
                    self.assertLess(self.greatest(table, found - 1, len(gains), lap), wanted)

    def greatest(self, table, depth, many, lap):
        """The greatest debt of all moments up to a depth of a ring, which may be greater than 10 ** 18."""
        turns = max(0, depth // many - 2)
        rest = depth - turns * many
        return max(debts_at(table, n)[1] for n in range(rest + 1)) + turns * lap

    def test_refused_numbers(self):
        for function, word in ((debts_at, "depth"), (least_depth, "wanted")):
            for number in (-1, 10 ** 18 + 1, -10 ** 30, 10 ** 30):
                for table in (TABLE, NESTED):
                    with self.assertRaises(InvalidNumber) as caught:
                        function(table, number)
                    self.assertEqual(caught.exception.word, word)


class SlopeTest(unittest.TestCase):
    def check(self, table, found):
        self.assertIs(check_slope(table, found.gain, found.span, found.heights, found.lap, found.base), True)
        self.assertIs(found.table, table)
        total = debt(table, found.lap)
        self.assertEqual(math.gcd(found.gain, found.span), 1)
        self.assertEqual(total * found.span, found.gain * len(found.lap))
        for times in range(3):
            check_moment(table.book, ((found.lap[-1][0], 0),) + found.lap * times + found.base)
        for moment in brute.reachable(table.book, 4, 60):
            if moment:
                bound = found.heights[table.book.main()] + found.gain * (len(moment) - 1)
                self.assertLessEqual(found.span * debt(table, moment), bound)

    def test_small_books(self):
        self.assertIsNone(slope(TABLE))
        found = slope(NESTED)
        self.assertEqual((found.gain, found.span, found.lap, found.base), (1, 1, (("main", 2),), ()))
        self.check(NESTED, found)
        found = slope(FREE_RING)
        self.assertEqual((found.gain, found.span, found.lap), (0, 1, (("main", 1),)))
        self.check(FREE_RING, found)

    def test_rings(self):
        for gains, gain, span in (((1,), 1, 1), ((0, 2), 1, 1), ((3, 0, 0, 0, 0, 1), 2, 3), ((0,) * 8, 0, 1),
                                  ((1, 0, 0, 0, 0, 0, 0, 0), 1, 8), ((2, 5, 1), 8, 3)):
            table = court(ring_book(gains), {"x": ("x",), "y": ()})
            found = slope(table)
            self.assertEqual((found.gain, found.span), (gain, span))
            self.check(table, found)

    def test_the_steepest_of_several(self):
        # m calls itself with a rest of 1 deed, or x twice as deep with 3 deeds together.
        book = Book((course("m", 5, (4,), call(0, "m", 3), do(3, "a", 4), call(0, "x", 2), do(2, "a", 3), do(0, "a", 4)),
                     course("x", 3, (2,), call(0, "m", 1), do(1, "a", 2))))
        table = court(book, plain(book))
        self.assertIsInstance(table, OwedTable)
        found = slope(table)
        self.assertEqual((found.gain, found.span), (3, 2))
        self.check(table, found)

    def test_the_steepest_of_two_calls_of_one_course(self):
        for rests in ((1, 2), (2, 1)):
            book = Book((course("m", 4, (3,), call(0, "m", rests[0]), call(0, "m", rests[1]), do(1, "a", 2), do(2, "a", 3),
                                do(0, "a", 3)),))
            table = court(book, plain(book))
            found = slope(table)
            self.assertEqual((found.gain, found.span, found.lap), (2, 1, (("m", 1),)))
            self.check(table, found)
            self.assertEqual(debts_at(table, 10), (10, 22))

    def right_slope(self, table, gain, span, heights):
        """Whether numbers have all that is said of a Slope but its lap."""
        book = table.book
        if math.gcd(gain, span) != 1 or min(gain, *heights.values()) < 0:
            return False
        for stage in table.rows:
            if heights[stage[0]] < span * len(table.rows[stage]):
                return False
            for k in brute.leaving(book, stage):
                parts = brute.parts(book, stage, k)
                if len(parts) == 2 and all(part in table.rows for part in parts):
                    if heights[stage[0]] < span * len(table.rows[parts[1]]) - gain + heights[parts[0][0]]:
                        return False
        return True

    def test_changed_numbers(self):
        rng = random.Random(8)
        seen = set()
        for table in tables.clear_tables(55, 200):
            found = slope(table)
            if found is None:
                continue
            for _ in range(12):
                heights = {name: found.heights[name] + rng.choice([-1, 0, 0, 0, 1]) for name in found.heights}
                right = self.right_slope(table, found.gain, found.span, heights)
                seen.add(right)
                self.assertIs(check_slope(table, found.gain, found.span, heights, found.lap, found.base), right)
            twice = {name: 2 * found.heights[name] for name in found.heights}
            self.assertIs(check_slope(table, 2 * found.gain, 2 * found.span, twice, found.lap, found.base), False)
        self.assertEqual(seen, {True, False})

    def test_random_books(self):
        rings = 0
        for table in tables.clear_tables(53, 200):
            found = slope(table)
            self.assertEqual(found is None, deepest(table) is not None)
            if found is not None:
                rings += 1
                self.check(table, found)
                self.assertEqual(found.gain > 0, isinstance(greatest_debt(table), Ring))
        self.assertGreater(rings, 30)

    def test_each_condition(self):
        table = court(ring_book((3, 0, 0, 1)), {"x": ("x",), "y": ()})
        right = slope(table)
        told = {"gain": right.gain, "span": right.span, "heights": right.heights, "lap": right.lap, "base": right.base}
        self.assertTrue(check_slope(table, **told))
        self.assertTrue(check_slope(table, **{**told, "lap": right.lap * 2}))
        more = {name: right.heights[name] + 5 for name in right.heights}
        self.assertTrue(check_slope(table, **{**told, "heights": more}))
        for wrong in ({"gain": right.gain * 2, "span": right.span * 2}, {"gain": right.gain + 1}, {"span": right.span + 1},
                      {"gain": 0, "span": 1}, {"gain": 1, "span": 0}, {"lap": ()}, {"lap": right.lap[1:]},
                      {"lap": right.lap[::-1]}, {"base": right.base + (("a", 1),)}, {"base": (("zz", 0),)},
                      {"heights": {**right.heights, "zz": 5}}, {"heights": {}}):
            self.assertIs(check_slope(table, **{**told, **wrong}), False, wrong)
        least = [name for name in right.heights
                 if not check_slope(table, **{**told, "heights": {**right.heights, name: right.heights[name] - 1}})]
        self.assertTrue(least)
        for name in right.heights:
            for value in (-1, None, "a", True, 1.5, (right.heights[name],)):
                self.assertIs(check_slope(table, **{**told, "heights": {**right.heights, name: value}}), False)
            without = {key: value for key, value in right.heights.items() if key != name}
            self.assertIs(check_slope(table, **{**told, "heights": without}), False)

    def test_any_values(self):
        for table in (TABLE, NESTED, FREE_RING):
            right = slope(table) or slope(NESTED)
            told = {"gain": right.gain, "span": right.span, "heights": right.heights, "lap": right.lap, "base": right.base}
            for name in told:
                for value in ODD_VALUES:
                    same = type(value) is type(told[name]) and value == told[name]
                    self.assertIs(check_slope(table, **{**told, name: value}), same and table is not TABLE, (name, value))
        self.assertIs(check_slope(TABLE, 0, 1, {"order": 3, "pay": 1}, (), ()), False)

    def test_books_at_the_limits(self):
        rng = random.Random(3)
        begun = time.time()
        for _ in range(4):
            book = full_book(rng, 0.5, 0.1)
            table = court(book, {deed: ("x",) if rng.random() < 0.2 else () for deed in book.deeds()})
            if isinstance(table, OwedTable):
                debts_at(table, 10 ** 18)
                least_depth(table, 10 ** 18)
                found = slope(table)
                if found is not None:
                    self.check(table, found)
        deep = tall((8, 8, 8, 8, 7, 7, 7, 7))
        table = court(deep, {"x": ()})
        self.assertEqual((deepest(table), debts_at(table, 7)), (7, (0, 0)))
        self.assertLess(time.time() - begun, 20)

    def test_kept_attributes(self):
        heights = {"main": 3}
        kept = Slope(NESTED, 1, 1, heights, (("main", 2),), ())
        heights.clear()
        self.assertEqual((kept.gain, kept.span, kept.heights, kept.lap, kept.base), (1, 1, {"main": 3}, (("main", 2),), ()))


if __name__ == "__main__":
    unittest.main()
