"""[17], [18]: lengths and ways, rows along ways, and their check."""

import random
import time
import unittest

import brute
from samples import DEAD, NEST, ORDER, call, course, do, full_book, one_course, tall
from stillowed.books import Book
from stillowed.errors import Refused
from stillowed.lengths import check_lengths, chosen_rows, lengths, plain, rows_along, ways


def costs(book, view):
    """The least costs, by growing from above."""
    best = {}
    while True:
        after = {}
        for stage in brute.useful(book):
            found = [cost for _, cost in way_costs(book, view, best, stage)]
            if found:
                after[stage] = min(found)
        if after == best:
            return best
        best = after


def way_costs(book, view, best, stage):
    """The pairs (way, cost) of the ways whose parts have costs, in the order of ways."""
    found = [(("end",), (0, 0))] if brute.is_end(book, stage) else []
    for k in brute.leaving(book, stage):
        parts = brute.parts(book, stage, k)
        if all(part in best for part in parts):
            step = book.steps(stage[0])[k]
            deeds = len(view[step[2]]) if step[1] == "do" else 0
            found.append((("step", k), (deeds + sum(best[p][0] for p in parts), 1 + sum(best[p][1] for p in parts))))
    return found


class LengthsTest(unittest.TestCase):
    def test_plain(self):
        self.assertEqual(plain(ORDER), {"card": ("card",), "send": ("send",), "stamp": ("stamp",), "take": ("take",)})
        self.assertEqual(plain(one_course(1, ())), {})
        self.assertEqual(list(plain(ORDER)), sorted(plain(ORDER)))

    def test_the_books_of_the_document(self):
        self.assertEqual(lengths(ORDER, plain(ORDER))[("order", 0)], 3)
        self.assertEqual(ways(ORDER, plain(ORDER))[("pay", 0)], ("step", 0))
        self.assertEqual(chosen_rows(ORDER, plain(ORDER))[("order", 0)], ("take", "card", "send"))
        self.assertEqual(ways(NEST, plain(NEST))[("main", 0)], ("step", 1))
        self.assertEqual(chosen_rows(NEST, plain(NEST))[("main", 1)], ("c", "b"))
        self.assertEqual(ways(NEST, plain(NEST))[("main", 4)], ("end",))
        self.assertEqual(lengths(DEAD, plain(DEAD)), {("main", 1): 1, ("main", 2): 0})

    def test_views_with_rows_of_none_one_and_several_deeds(self):
        book = one_course(4, (3,), do(0, "a", 1), do(0, "b", 2), do(1, "a", 3), do(2, "c", 3))
        for view, length, way, row in (
                ({"a": ("a",), "b": ("b",), "c": ("c",)}, 2, ("step", 0), ("a", "a")),
                ({"a": ("a",), "b": (), "c": ("c",)}, 1, ("step", 1), ("c",)),
                ({"a": ("x", "y"), "b": ("p", "q", "r"), "c": ()}, 3, ("step", 1), ("p", "q", "r")),
                ({"a": (), "b": (), "c": ()}, 0, ("step", 0), ()),
                ({"a": ("a",), "b": (), "c": ("z", "z"), "other": ("k",) * 9}, 2, ("step", 0), ("a", "a"))):
            self.assertEqual(lengths(book, view)[("main", 0)], length)
            self.assertEqual(ways(book, view)[("main", 0)], way)
            self.assertEqual(chosen_rows(book, view)[("main", 0)], row)

    def test_ties(self):
        # Fewer steps go before lesser numbers; of equal costs the lesser number wins; an end goes first.
        book = one_course(4, (2,), do(0, "a", 1), do(0, "b", 2), do(1, "c", 2), do(0, "c", 2), do(2, "a", 2))
        view = {"a": (), "b": ("b",), "c": ("c",)}
        self.assertEqual(ways(book, view), {("main", 0): ("step", 1), ("main", 1): ("step", 2), ("main", 2): ("end",)})
        # A call of an empty course costs one step: the deed alone is cheaper.
        book = Book((course("main", 3, (2,), call(0, "x", 1), do(0, "a", 2), do(1, "a", 2)), course("x", 1, (0,))))
        self.assertEqual(ways(book, plain(book))[("main", 0)], ("step", 1))
        # An end costs nothing even where a step by a hidden deed leads to an end.
        book = one_course(2, (0, 1), do(0, "a", 1))
        self.assertEqual(ways(book, {"a": ()})[("main", 0)], ("end",))

    def test_random_books_and_views(self):
        rng = random.Random(7)
        for book in brute.mixed_books(31, 300):
            for view in (plain(book), brute.random_view(rng, book, 1), brute.random_view(rng, book, 3)):
                best = costs(book, view)
                found = lengths(book, view)
                chosen = ways(book, view)
                self.assertEqual(found, {stage: cost[0] for stage, cost in best.items()})
                self.assertEqual(list(found), sorted(found))
                self.assertEqual(list(chosen), sorted(found))
                for stage in found:
                    expected = next(way for way, cost in way_costs(book, view, best, stage) if cost == best[stage])
                    self.assertEqual(chosen[stage], expected)
                rows = chosen_rows(book, view)
                self.assertEqual(list(rows), list(found))
                self.assertEqual({s: len(row) for s, row in rows.items()}, found)
                listed = brute.endings(book, 3, view)
                for stage, row in rows.items():
                    self.assertTrue(len(row) > 3 or row in listed[stage])
                    self.assertEqual(min([len(r) for r in listed[stage]], default=len(row)), len(row))

    def test_at_the_limits(self):
        began = time.time()
        rng = random.Random(8)
        for _ in range(20):
            book = full_book(rng)
            view = plain(book)
            self.assertTrue(check_lengths(book, view, lengths(book, view), ways(book, view)))
        book = tall((8, 8, 8, 8, 7, 7, 7, 7))
        self.assertEqual(lengths(book, plain(book))[("a", 0)], 7 ** 4 * 6 ** 4)
        self.assertTrue(check_lengths(book, plain(book), lengths(book, plain(book)), ways(book, plain(book))))
        self.assertLess(time.time() - began, 5)


class RowsAlongTest(unittest.TestCase):
    BOOK = Book((course("main", 3, (2,), do(0, "a", 1), call(0, "x", 2), do(1, "b", 2), do(2, "c", 0)),
                 course("x", 2, (0, 1), do(0, "a", 1))))

    def test_any_sound_ways(self):
        view = {"a": ("p", "q"), "b": (), "c": ("c",)}
        chosen = {("main", 0): ("step", 1), ("main", 2): ("end",), ("x", 0): ("step", 4 - 4), ("x", 1): ("end",)}
        self.assertEqual(rows_along(self.BOOK, view, chosen), {
            ("main", 0): ("p", "q"), ("main", 2): (), ("x", 0): ("p", "q"), ("x", 1): ()})
        self.assertEqual(rows_along(self.BOOK, view, {("x", 1): ("end",)}), {("x", 1): ()})
        self.assertEqual(rows_along(self.BOOK, view, {}), {})
        chosen = {("x", 1): ("end",), ("x", 0): ("end",), ("main", 2): ("end",), ("main", 0): ("step", 1)}
        found = rows_along(self.BOOK, view, chosen)
        self.assertEqual(list(found), sorted(chosen))
        self.assertEqual(found[("main", 0)], ())

    def test_the_called_row_goes_before_the_rest(self):
        book = Book((course("main", 3, (2,), call(0, "x", 1), do(1, "b", 2)), course("x", 2, (1,), do(0, "a", 1))))
        self.assertEqual(chosen_rows(book, plain(book))[("main", 0)], ("a", "b"))

    def test_the_limit_of_deeds(self):
        # A line of 3 stages by a deed shown as n deeds has 3 n deeds together.
        book = one_course(3, (2,), do(0, "a", 1), do(1, "a", 2))
        for many, extra, refused in ((6666, 2, False), (6667, 0, True), (6666, 3, True), (6660, 20, False)):
            wide = Book(book.courses + (course("x", 2, (1,), do(0, "b", 1)),))
            view = {"a": ("d",) * many, "b": ("d",) * extra}
            if refused:
                with self.assertRaises(Refused) as caught:
                    chosen_rows(wide, view)
                self.assertEqual(caught.exception.word, "long")
                with self.assertRaises(Refused):
                    rows_along(wide, view, ways(wide, view))
            else:
                self.assertEqual(sum(map(len, chosen_rows(wide, view).values())), 3 * many + extra)
        huge = tall((8, 8, 8, 8, 7, 7, 7, 7))
        with self.assertRaises(Refused):
            chosen_rows(huge, plain(huge))


class CheckLengthsTest(unittest.TestCase):
    def test_right_ones_pass(self):
        rng = random.Random(9)
        for book in brute.mixed_books(32, 150):
            view = brute.random_view(rng, book)
            table, chosen = lengths(book, view), ways(book, view)
            self.assertIs(check_lengths(book, view, table, chosen), True)
            shuffled = {s: table[s] for s in reversed(list(table))}
            self.assertTrue(check_lengths(book, view, shuffled, chosen))

    def test_other_sound_ways_pass(self):
        book = one_course(4, (3,), do(0, "a", 1), do(0, "b", 2), do(1, "a", 3), do(2, "c", 3), do(1, "b", 1))
        table, chosen = lengths(book, plain(book)), ways(book, plain(book))
        chosen[("main", 0)] = ("step", 1)
        self.assertTrue(check_lengths(book, plain(book), table, chosen))
        # A way with a hidden loop has the right length, too, but it is not sound.
        chosen[("main", 1)] = ("step", 4)
        self.assertFalse(check_lengths(book, {"a": ("a",), "b": (), "c": ("c",)}, {
            ("main", 0): 1, ("main", 1): 1, ("main", 2): 1, ("main", 3): 0}, chosen))

    def test_longer_ways_do_not(self):
        book = one_course(3, (2,), do(0, "a", 1), do(0, "b", 2), do(1, "a", 2))
        table = {("main", 0): 2, ("main", 1): 1, ("main", 2): 0}
        chosen = {("main", 0): ("step", 0), ("main", 1): ("step", 2), ("main", 2): ("end",)}
        self.assertFalse(check_lengths(book, plain(book), table, chosen))
        self.assertTrue(check_lengths(book, {"a": (), "b": ("b",)}, dict.fromkeys(table, 0), chosen))

    def test_an_end_is_a_way_that_bounds(self):
        book = one_course(2, (0, 1), do(0, "a", 1))
        chosen = {("main", 0): ("step", 0), ("main", 1): ("end",)}
        self.assertFalse(check_lengths(book, plain(book), {("main", 0): 1, ("main", 1): 0}, chosen))
        self.assertTrue(check_lengths(book, {"a": ()}, {("main", 0): 0, ("main", 1): 0}, chosen))

    def test_one_number_way_or_key_changed(self):
        rng = random.Random(10)
        for book in brute.mixed_books(33, 200):
            view = brute.random_view(rng, book)
            table, chosen = lengths(book, view), ways(book, view)
            for stage in book.stages():
                if stage not in table:
                    self.assertFalse(check_lengths(book, view, {**table, stage: 0}, {**chosen, stage: ("end",)}))
                    self.assertFalse(check_lengths(book, view, {**table, stage: 0}, {**chosen, stage: ("step", 0)}))
                    self.assertFalse(check_lengths(book, view, {**table, stage: 0}, chosen))
                    self.assertFalse(check_lengths(book, view, table, {**chosen, stage: ("end",)}))
                    continue
                for change in (-1, 1, 7):
                    self.assertFalse(check_lengths(book, view, {**table, stage: table[stage] + change}, chosen))
                fewer = {s: n for s, n in table.items() if s != stage}
                without = {s: way for s, way in chosen.items() if s != stage}
                self.assertFalse(check_lengths(book, view, fewer, chosen))
                self.assertFalse(check_lengths(book, view, table, without))
                self.assertFalse(check_lengths(book, view, fewer, without))
                for way in [("end",)] + [("step", k) for k in range(len(book.steps(stage[0])) + 2)]:
                    other = {**chosen, stage: way}
                    self.assertEqual(check_lengths(book, view, table, other),
                                     self.is_proof(book, view, table, other), (book.courses, stage, way))

    def is_proof(self, book, view, table, chosen):
        """Whether ways with one changed are sound and give the (right) numbers of the table."""
        for stage, way in chosen.items():
            if way == ("end",):
                if not brute.is_end(book, stage) or table[stage] != 0:
                    return False
                continue
            if way[1] not in brute.leaving(book, stage):
                return False
            parts = brute.parts(book, stage, way[1])
            step = book.steps(stage[0])[way[1]]
            if any(part not in table for part in parts):
                return False
            if table[stage] != (len(view[step[2]]) if step[1] == "do" else 0) + sum(table[p] for p in parts):
                return False
        for first in chosen:
            level = {first}
            for _ in range(len(chosen) + 1):
                level = {p for s in level if chosen[s] != ("end",) for p in brute.parts(book, s, chosen[s][1])}
            if level:
                return False
        return True

    def test_steps_of_others(self):
        table = lengths(ORDER, plain(ORDER))
        chosen = ways(ORDER, plain(ORDER))
        for way in (("step", 1), ("step", 2), ("step", 3), ("step", 10 ** 20), ("end",)):
            self.assertFalse(check_lengths(ORDER, plain(ORDER), table, {**chosen, ("order", 0): way}))
        self.assertFalse(check_lengths(ORDER, plain(ORDER), {}, {}))
        self.assertTrue(check_lengths(one_course(1, ()), {}, {}, {}))

    def test_nothing_passed_is_changed(self):
        view, table, chosen = plain(ORDER), lengths(ORDER, plain(ORDER)), ways(ORDER, plain(ORDER))
        before = dict(view), dict(table), dict(chosen)
        check_lengths(ORDER, view, table, chosen)
        rows_along(ORDER, view, chosen).clear()
        chosen_rows(ORDER, view).clear()
        lengths(ORDER, view).clear()
        ways(ORDER, view).clear()
        plain(ORDER).clear()
        self.assertEqual((view, table, chosen), before)
        self.assertEqual(ways(ORDER, view), chosen)


if __name__ == "__main__":
    unittest.main()
