"""[61] to [64], as far as module `debts`: sites, debts, heights, rings, how soon."""

import random
import time
import unittest

import brute
from samples import NEST, ORDER, call, course, do, full_book, one_course, tall
from tables import clear_tables
from stillowed.books import Book
from stillowed.debts import Heights, Ring, check_heights, check_ring, debt, greatest_debt, sites, soonest
from stillowed.errors import InvalidNumber, Refused
from stillowed.lengths import plain
from stillowed.met import met
from stillowed.moments import check_moment, start, way_to
from stillowed.owed import OwedTable, court


def moments_of(table, most_stages=6, most=800):
    """Moments but the end, with the fewest moves to them, and whether these are all."""
    found = brute.reachable(table.book, most_stages, most)
    whole = len(found) < most and not any(len(moment) == most_stages for moment in found)
    return {moment: many for moment, many in found.items() if moment}, whole


# A course that calls itself, the debt growing with each call; and one whose ring adds nothing.
GROWING = court(NEST, plain(NEST))
FLAT_BOOK = Book((course("main", 3, (2,), call(0, "main", 1), do(0, "a", 2), do(1, "h", 2)),))
FLAT = court(FLAT_BOOK, {"a": ("a",), "h": ()})
DOWN = court(Book((course("main", 4, (3,), call(0, "x", 1), do(1, "b", 2), do(2, "c", 3)),
                   course("x", 3, (2,), do(0, "a", 1), call(1, "y", 2), do(0, "a", 2)),
                   course("y", 2, (0, 1), do(0, "z", 1)))), {"a": ("a",), "b": ("b",), "c": ("c", "c"), "z": ("z",)})


class SitesTest(unittest.TestCase):
    def test_small_books(self):
        self.assertEqual(sites(court(ORDER, plain(ORDER))), (("order", 1),))
        self.assertEqual(sites(GROWING), (("main", 2),))
        self.assertEqual(sites(DOWN), (("main", 0), ("x", 1)))

    def test_only_from_met_stages_to_useful_ones(self):
        book = Book((course("main", 5, (3,), call(0, "dead", 3), call(0, "x", 4), do(0, "a", 3), call(1, "x", 3)),
                     course("x", 1, (0,)), course("dead", 1, ())))
        self.assertEqual(sites(court(book, plain(book))), ())
        book = Book((course("main", 5, (3,), call(0, "dead", 3), call(0, "x", 3), do(0, "a", 3), call(1, "x", 3)),
                     course("x", 1, (0,)), course("dead", 1, ())))
        self.assertEqual(sites(court(book, {"a": ()})), (("main", 1),))

    def test_random_books(self):
        for table in clear_tables(151, 200):
            book, good = table.book, brute.useful(table.book)
            expected = [(stage[0], k) for stage in met(book) for k in brute.leaving(book, stage)
                        if book.steps(stage[0])[k][1] == "call" and all(p in good for p in brute.parts(book, stage, k))]
            self.assertEqual(sites(table), tuple(sorted(expected)))
            for moment in list(moments_of(table)[0])[:50]:
                self.assertEqual(debt(table, moment), len(table.owed(moment)))
            self.assertEqual(debt(table, ()), 0)


class GreatestDebtTest(unittest.TestCase):
    def test_heights(self):
        found = greatest_debt(DOWN)
        self.assertIsInstance(found, Heights)
        self.assertEqual(found.heights, {"main": 4, "x": 1, "y": 0})
        self.assertEqual(list(found.heights), ["main", "x", "y"])
        self.assertEqual(found.greatest, 4)
        self.assertEqual(debt(DOWN, found.peak), 4)
        self.assertTrue(check_heights(DOWN, found.heights, found.peak))
        self.assertEqual(vars(found)["table"], DOWN)

    def test_a_ring_that_adds_nothing(self):
        found = greatest_debt(FLAT)
        self.assertIsInstance(found, Heights)
        self.assertEqual((found.heights, found.greatest), ({"main": 1}, 1))
        book = Book((course("main", 3, (2,), call(0, "x", 1), do(0, "a", 2), do(1, "h", 2)),
                     course("x", 3, (2,), call(0, "main", 1), do(0, "a", 2), do(1, "h", 2), do(0, "h", 1))))
        table = court(book, {"a": ("a", "a"), "h": ()})
        self.assertIsInstance(greatest_debt(table), Heights)

    def test_a_ring(self):
        found = greatest_debt(GROWING)
        self.assertIsInstance(found, Ring)
        self.assertEqual((found.lap, found.base, found.gain), ((("main", 2),), (), 1))
        self.assertEqual(found.turned(0), (("main", 0),))
        self.assertEqual(found.turned(3), (("main", 0),) + (("main", 2),) * 3)
        self.assertEqual([found.times_for(wanted) for wanted in (0, 1, 2, 10)], [0, 0, 1, 9])
        self.assertEqual(found.times_for(10 ** 30), 10 ** 30 - 1)

    def test_a_ring_of_several_courses_behind_others(self):
        book = Book((course("main", 3, (2,), call(0, "p", 1), do(1, "m", 2)),
                     course("p", 4, (3,), call(0, "q", 1), do(0, "d", 3), do(1, "a", 2), do(2, "b", 3)),
                     course("q", 2, (1,), call(0, "p", 1), do(0, "d", 1))))
        table = court(book, plain(book))
        found = greatest_debt(table)
        self.assertIsInstance(found, Ring)
        self.assertEqual(found.gain, debt(table, found.lap))
        for times in range(5):
            moment = found.turned(times)
            self.assertIsNone(check_moment(book, moment))
            self.assertEqual(moment, ((found.lap[-1][0], 0),) + found.lap * times + found.base)
            self.assertEqual(debt(table, moment), debt(table, found.turned(0)) + times * found.gain)
        for wanted in range(12):
            times = found.times_for(wanted)
            self.assertGreaterEqual(debt(table, found.turned(times)), wanted)
            self.assertTrue(times == 0 or debt(table, found.turned(times - 1)) < wanted)
        self.assertTrue(check_ring(table, found.lap, found.base))

    def test_the_limit_of_stages(self):
        ring = greatest_debt(GROWING)
        self.assertEqual(len(ring.turned(19999)), 20000)
        for times in (20000, 10 ** 30):
            with self.assertRaises(Refused) as caught:
                ring.turned(times)
            self.assertEqual(caught.exception.word, "long")
        ring = Ring(GROWING, (("main", 2),) * 3, (("main", 2),) * 2)
        self.assertEqual(len(ring.turned(6665)), 19998)
        with self.assertRaises(Refused):
            ring.turned(6666)
        self.assertEqual(ring.gain, 3)
        # With the base, two deeds more are owed.
        self.assertEqual([ring.times_for(wanted) for wanted in range(10)], [0, 0, 0, 0, 1, 1, 1, 2, 2, 2])

    def test_random_tables(self):
        seen = {Heights: 0, Ring: 0}
        for table in clear_tables(152, 400):
            found = greatest_debt(table)
            seen[type(found)] += 1
            moments, whole = moments_of(table)
            most = max(debt(table, moment) for moment in moments)
            if isinstance(found, Heights):
                self.assertGreaterEqual(found.greatest, most)
                if whole:
                    self.assertEqual(found.greatest, most)
                self.assertIsNone(check_moment(table.book, found.peak))
                self.assertEqual(debt(table, found.peak), found.greatest)
                self.assertTrue(check_heights(table, found.heights, found.peak))
                self.check_least(table, found)
            else:
                for times in range(4):
                    self.assertIsNone(check_moment(table.book, found.turned(times)))
                self.assertEqual(found.gain, debt(table, found.lap))
                self.assertGreaterEqual(found.gain, 1)
                self.assertTrue(check_ring(table, found.lap, found.base))
                self.assertEqual(found.lap[-1][0], found.turned(0)[0][0])
        self.assertGreater(min(seen.values()), 20)

    def check_least(self, table, found):
        """No course's number can be made less while the others stay."""
        for name in found.heights:
            fewer = {**found.heights, name: found.heights[name] - 1}
            if fewer[name] >= 0:
                needed = [debt(table, (stage,)) for stage in table.rows if stage[0] == name]
                for course_name, k in sites(table):
                    if course_name == name:
                        step = table.book.steps(name)[k]
                        needed.append(debt(table, ((name, step[3]),)) + found.heights[step[2]])
                self.assertEqual(max(needed), found.heights[name])


class CheckHeightsTest(unittest.TestCase):
    def test_wrong_heights(self):
        right = greatest_debt(DOWN)
        peak = right.peak
        for heights in ({}, {"main": 4}, {"main": 4, "x": 1}, {"main": 4, "x": 1, "y": 0, "z": 0},
                        {"main": 3, "x": 1, "y": 0}, {"main": 5, "x": 1, "y": 0}, {"main": 4, "x": 0, "y": 0},
                        {"main": 4, "x": 1, "y": -1}, {"main": 4, "x": True, "y": 0}, {"main": 4, "x": 1, "y": False},
                        {"main": 4, "x": 1, "y": 0.0}, {"main": 4, "x": 1, "y": None}, {"main": 4, "x": "1", "y": 0},
                        {"main": 4, "x": 1, None: 0}, {"main": 4, "x": 1, ("y",): 0}, {"main": 4, "x": 2, "y": 0},
                        {"main": 4.0, "x": 1, "y": 0}, {"main": 4, "x": [], "y": 0}):
            self.assertIs(check_heights(DOWN, heights, peak), False, heights)
        for value in brute.ODD_VALUES:
            self.assertIs(check_heights(DOWN, value, peak), False, value)
        self.assertIs(check_heights(DOWN, right.heights, peak), True)
        # Others than the least ones pass where the main course's number is reached.
        self.assertIs(check_heights(DOWN, {"main": 4, "x": 1, "y": 1}, peak), True)

    def test_wrong_peaks(self):
        right = greatest_debt(DOWN)
        for value in brute.ODD_VALUES + [(("main", 0),) + (("main", 1),), (("main", 3),), (("x", 0),),
                                         (("y", 0), ("x", 2)), list(right.peak), right.peak + (None,)]:
            good = isinstance(value, tuple) and value == (("main", 0),) and debt(DOWN, value) == 4
            self.assertIs(check_heights(DOWN, right.heights, value), good, value)
        # The end does not count, though its debt is 0.
        hidden = court(FLAT_BOOK, {"a": (), "h": ()})
        self.assertIs(check_heights(hidden, {"main": 0}, ()), False)
        self.assertIs(check_heights(hidden, {"main": 0}, (("main", 0),)), True)
        self.assertIs(check_heights(hidden, {"main": 1}, (("main", 0),)), False)
        self.assertIs(check_heights(FLAT, {"main": 1}, (("main", 2),)), False)

    def test_courses_that_are_not_met(self):
        book = Book((course("main", 2, (1,), do(0, "a", 1)), course("x", 2, (1,), do(0, "a", 1))))
        table = court(book, plain(book))
        self.assertEqual(greatest_debt(table).heights, {"main": 1})
        self.assertFalse(check_heights(table, {"main": 1, "x": 1}, (("main", 0),)))

    def test_no_heights_bound_a_ring(self):
        for number in (0, 1, 5, 100):
            for moment in ((("main", 0),) + (("main", 2),) * max(0, number - 1),):
                self.assertFalse(check_heights(GROWING, {"main": number}, moment))


class CheckRingTest(unittest.TestCase):
    def test_any_values(self):
        self.assertIs(check_ring(GROWING, (("main", 2),), ()), True)
        self.assertIs(check_ring(GROWING, (("main", 2),) * 5, (("main", 2),) * 3), True)
        for value in brute.ODD_VALUES + [(("main", 3),), (("main", 2), ("main", 3)), [("main", 2)], (("main", 2), None),
                                         (None, ("main", 2)), (("x", 0),), (("main", 9),)]:
            self.assertIs(check_ring(GROWING, value, ()), False, value)
            if value != ():
                self.assertIs(check_ring(GROWING, (("main", 2),), value), False, value)

    def test_laps_without_a_gain(self):
        self.assertFalse(check_ring(FLAT, (("main", 1),), ()))
        self.assertFalse(check_ring(DOWN, (), ()))

    def test_laps_that_do_not_come_back(self):
        book = Book((course("main", 3, (2,), call(0, "p", 1), do(1, "m", 2)),
                     course("p", 4, (3,), call(0, "q", 1), do(0, "d", 3), do(1, "a", 2), do(2, "b", 3)),
                     course("q", 2, (1,), call(0, "p", 1), do(0, "d", 1))))
        table = court(book, plain(book))
        for lap, base, right in (((("q", 1), ("p", 1)), (("main", 1),), True), ((("p", 1), ("q", 1)), (("main", 1),), False),
                                 ((("p", 1), ("q", 1)), (("p", 1), ("main", 1)), True), ((("p", 1),), (("main", 1),), False),
                                 ((("q", 1), ("p", 1)), (), False), ((("main", 1),), (), False), ((), (("main", 1),), False),
                                 ((("q", 1), ("p", 2)), (("main", 1),), False),
                                 ((("q", 1), ("p", 1)), (("main", 2),), False)):
            self.assertIs(check_ring(table, lap, base), right, (lap, base))


class SoonestTest(unittest.TestCase):
    def test_small_tables(self):
        self.assertEqual(soonest(GROWING, 0), (0, (("main", 0),)))
        self.assertEqual(soonest(GROWING, 1), (0, (("main", 0),)))
        self.assertEqual(soonest(GROWING, 2), (1, (("main", 1),)))
        self.assertEqual(soonest(GROWING, 3), (3, (("main", 1), ("main", 2))))
        self.assertEqual(soonest(DOWN, 4), (0, (("main", 0),)))
        self.assertIsNone(soonest(DOWN, 5))
        self.assertEqual(soonest(FLAT, 0), (0, (("main", 0),)))
        self.assertEqual(soonest(FLAT, 1), (0, (("main", 0),)))
        self.assertIsNone(soonest(FLAT, 2))

    def test_wrong_numbers(self):
        for wanted in (-1, 401, -10 ** 30, 10 ** 30):
            with self.assertRaises(InvalidNumber) as caught:
                soonest(DOWN, wanted)
            self.assertEqual(caught.exception.word, "wanted")
        self.assertEqual(soonest(GROWING, 400)[0], 2 * 398 + 1)

    def test_random_tables(self):
        later = 0
        for table in clear_tables(153, 300):
            moments, whole = moments_of(table, 5, 500)
            for wanted in range(8):
                found = soonest(table, wanted)
                known = min([many for moment, many in moments.items() if debt(table, moment) >= wanted], default=None)
                if found is None:
                    self.assertIsNone(known)
                    continue
                many, moment = found
                self.assertGreaterEqual(debt(table, moment), wanted)
                self.assertEqual(len(way_to(table.book, moment)), many)
                self.assertTrue(many == known or not whole and (known is None or many < known))
                later += many > 0
        self.assertGreater(later, 100)

    def test_at_the_limits(self):
        began = time.time()
        rng = random.Random(154)
        kinds = {}
        for _ in range(25):
            book = full_book(rng, call_odds=0.6)
            table = court(book, {deed: (deed,) if at < 2 else () for at, deed in enumerate(book.deeds())})
            if isinstance(table, OwedTable):
                found = greatest_debt(table)
                kinds[type(found)] = True
                for wanted in (0, 1, 2, 400):
                    answer = soonest(table, wanted)
                    if isinstance(found, Heights):
                        self.assertEqual(answer is None, wanted > found.greatest)
                    else:
                        check_moment(book, answer[1])
        book = tall((4,) * 8)
        table = court(book, {"x": ()})
        self.assertEqual(greatest_debt(table).greatest, 0)
        book = tall((3, 4, 3, 4))
        table = court(book, plain(book))
        self.assertEqual(greatest_debt(table).greatest, 2 * 3 * 2 * 3)
        self.assertEqual(greatest_debt(table).heights["d"], 3)
        self.assertEqual(start(book), (("a", 0),))
        self.assertLess(time.time() - began, 20)
        self.assertTrue(kinds)


if __name__ == "__main__":
    unittest.main()
