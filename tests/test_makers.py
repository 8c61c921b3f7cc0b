"""[55] to [58]: depths that are enough, makers, papers, and steps that bear."""

import random
import time
import unittest

import brute
from brute import ODD_VALUES
from samples import NEST, ORDER, call, course, do, full_book, one_course, tall
from stillowed.books import Book
from stillowed.errors import InvalidNumber, NoEnding, Refused
from stillowed.lengths import plain
from stillowed.lists import lists, lists_by, lists_to_depth
from stillowed.makers import bearing, check_lists, enough_depth, list_run, makers


def random_lists(seed, many):
    """Tuples (book, view, table) with lists that are not too wide."""
    rng = random.Random(seed)
    for book in brute.mixed_books(seed, many):
        view = plain(book) if rng.random() < 0.5 else brute.random_view(rng, book, 2)
        try:
            yield book, view, lists(book, view)
        except Refused:
            continue


def all_ways(book, view, table, stage, row):
    """The ways of a row by the words of the document, in order."""
    found = [("end",)] if brute.is_end(book, stage) and row == () else []
    for k in brute.leaving(book, stage):
        step = book.steps(stage[0])[k]
        parts = brute.parts(book, stage, k)
        if step[1] == "do":
            found += [("do", k, j) for j, rest in enumerate(table.get(parts[0], ())) if view[step[2]] + rest == row]
        else:
            found += [("call", k, i, j) for i, one in enumerate(table.get(parts[0], ()))
                      for j, rest in enumerate(table.get(parts[1], ())) if one + rest == row]
    return found


def way_parts(book, stage, way):
    return [] if way == ("end",) else list(zip(brute.parts(book, stage, way[1]), way[2:]))


def right_makers(book, view, table):
    """The makers, by lowering numbers until nothing changes."""
    ways = {(stage, at): all_ways(book, view, table, stage, row)
            for stage in table for at, row in enumerate(table[stage])}
    best = {}
    grown = True
    while grown:
        grown = False
        for key in ways:
            for way in ways[key]:
                parts = way_parts(book, key[0], way)
                if all(part in best for part in parts):
                    number = 1 + sum(best[part] for part in parts)
                    if number < best.get(key, number + 1):
                        best[key] = number
                        grown = True
    return {stage: tuple((best[(stage, at)], [way for way in ways[(stage, at)] if all(
        part in best for part in way_parts(book, stage, way)) and 1 + sum(
        best[part] for part in way_parts(book, stage, way)) == best[(stage, at)]][0])
        for at in range(len(table[stage]))) for stage in table}


def bear(book, view, table):
    return tuple(sorted({(stage[0], way[1]) for stage in table for row in table[stage]
                         for way in all_ways(book, view, table, stage, row) if len(way) > 1}))


class DepthTest(unittest.TestCase):
    def test_small_books(self):
        self.assertEqual(enough_depth(ORDER, plain(ORDER), lists(ORDER, plain(ORDER))), 1)
        self.assertEqual(enough_depth(NEST, plain(NEST), lists(NEST, plain(NEST))), 1)
        line = one_course(2, (1,), do(0, "a", 1))
        self.assertEqual(enough_depth(line, plain(line), lists(line, plain(line))), 0)
        dead = one_course(1, ())
        self.assertEqual(enough_depth(dead, {}, lists(dead, {})), 0)
        deep = tall((2,) * 8)
        self.assertEqual(enough_depth(deep, plain(deep), lists(deep, plain(deep))), 7)

    def test_against_lists_to_depths(self):
        seen = set()
        for book, view, table in random_lists(3, 240):
            need = enough_depth(book, view, table)
            seen.add(need)
            for depth in range(len(book.names()) + 1):
                try:
                    self.assertEqual(lists_to_depth(book, view, depth) == table, depth >= need)
                except Refused:
                    break
        self.assertLessEqual({0, 1, 2}, seen)

    def test_whatever_the_limits(self):
        # Without the call, 64 rows of 6 deeds are least endings; with it the empty row is.
        steps = [do(n, word, n + 1) for n in range(6) for word in "ab"]
        book = Book((course("m", 7, (6,), *steps, call(0, "x", 6)), course("x", 1, (0,))))
        with self.assertRaises(Refused):
            lists_to_depth(book, plain(book), 1)
        short = Book((course("m", 5, (4,), *[do(n, word, n + 1) for n in range(4) for word in "ab"], call(0, "x", 4)),
                      course("x", 1, (0,))))
        table = lists(short, plain(short))
        self.assertEqual(enough_depth(short, plain(short), table), 1)


class MakersTest(unittest.TestCase):
    def test_small_books(self):
        table = lists(NEST, plain(NEST))
        self.assertEqual(makers(NEST, plain(NEST), table), {
            ("main", 0): ((2, ("do", 1, 0)),), ("main", 1): ((5, ("call", 2, 0, 0)),), ("main", 2): ((2, ("do", 3, 0)),),
            ("main", 3): ((1, ("end",)),), ("main", 4): ((1, ("end",)),)})
        # Equal moves: the end goes before steps, steps by their numbers.
        view = {"a": (), "b": (), "c": ("c",)}
        book = one_course(2, (0, 1), do(0, "b", 1), do(0, "a", 1))
        self.assertEqual(makers(book, view, lists(book, view))[("main", 0)], ((1, ("end",)),))
        book = one_course(2, (1,), do(0, "b", 1), do(0, "a", 1), call(0, "main", 1))
        self.assertEqual(makers(book, view, lists(book, view))[("main", 0)], ((2, ("do", 0, 0)),))

    def test_one_step_with_several_ways(self):
        # x has the rows (a,) and (a, a, b)... the call can split the row of m at two places.
        book = Book((course("m", 2, (1,), call(0, "x", 1), do(1, "z", 1)), course("x", 3, (2,), do(0, "a", 2))))
        table = {("m", 0): (("a", "b", "a"),), ("m", 1): (("a",), ("b", "a"), ()), ("x", 0): (("a", "b"), ("a",)),
                 ("x", 1): (), ("x", 2): ()}
        ways = all_ways(book, plain(book), table, ("m", 0), ("a", "b", "a"))
        self.assertEqual(ways, [("call", 0, 0, 0), ("call", 0, 1, 1)])

    def test_against_slow_answers(self):
        for book, view, table in random_lists(5, 260):
            found = makers(book, view, table)
            self.assertEqual(found, right_makers(book, view, table))
            self.assertEqual(list(found), list(table))
            self.assertEqual(bearing(book, view, table), bear(book, view, table))
            self.assertTrue(check_lists(book, view, table, found))

    def test_runs(self):
        checked = 0
        for book, view, table in random_lists(7, 160):
            made = makers(book, view, table)
            for stage in table:
                for place, row in enumerate(table[stage]):
                    run = list_run(book, made, stage, place)
                    self.assertEqual(len(run), made[stage][place][0])
                    moment = (stage,)
                    shown = ()
                    for move in run:
                        self.assertIn(move, brute.raw_moves(book, moment))
                        for deed in brute.deed_of(book, moment, move):
                            shown += view[deed]
                        moment = brute.behind(book, moment, move)
                    self.assertEqual((moment, shown), ((), row))
                    checked += 1
        self.assertGreater(checked, 300)

    def test_errors_of_runs(self):
        made = makers(ORDER, plain(ORDER), lists(ORDER, plain(ORDER)))
        del made[("pay", 3)]
        for place in (0, None):
            with self.assertRaises(NoEnding) as caught:
                list_run(ORDER, made, ("pay", 3), place)
            self.assertEqual(caught.exception.stage, ("pay", 3))
        for place in ODD_VALUES + [1, 2]:
            with self.assertRaises(InvalidNumber) as caught:
                list_run(ORDER, made, ("order", 0), place)
            self.assertEqual(caught.exception.word, "place")
        self.assertEqual(list_run(ORDER, made, ("order", 1), 0),
                         (("call", 1), ("do", 0), ("leave",), ("do", 2), ("leave",)))

    def test_runs_of_2000_moves(self):
        # A row of no deeds, made by very many moves.
        for last in (2, 3):
            book = Book((course("a", 20, (19,), *[call(n, "b", n + 1) for n in range(19)]),
                         course("b", 20, (19,), *[call(n, "c", n + 1) for n in range(19)]),
                         course("c", last, (last - 1,), *[do(n, "h", n + 1) for n in range(last - 1)])))
            made = makers(book, {"h": ()}, lists(book, {"h": ()}))
            many = made[("a", 0)][0][0]
            self.assertEqual(many, 20 + 19 * (20 + 19 * last))
            self.assertEqual(len(list_run(book, made, ("a", 0), 0)), many)
        for many in (2000, 2001):
            made = {("main", 0): ((many, ("do", 0, 0)),), ("main", 1): ((1, ("end",)),)}
            line = one_course(2, (1,), do(0, "a", 1))
            if many > 2000:
                with self.assertRaises(Refused) as caught:
                    list_run(line, made, ("main", 0), 0)
                self.assertEqual(caught.exception.word, "long")
            else:
                self.assertEqual(list_run(line, made, ("main", 0), 0), (("do", 0), ("leave",)))
        view = {"x": ()}
        huge = tall((8,) * 7 + (4,))
        made = makers(huge, view, lists(huge, view))
        with self.assertRaises(Refused):
            list_run(huge, made, ("a", 0), 0)


class PaperTest(unittest.TestCase):
    def test_right_papers(self):
        for book, view, table in random_lists(11, 120):
            self.assertIs(check_lists(book, view, table, makers(book, view, table)), True)

    def test_each_condition(self):
        book = Book((course("m", 4, (3,), do(0, "a", 1), do(0, "b", 2), call(1, "x", 3), do(2, "c", 3), call(0, "m", 3)),
                     course("x", 3, (2,), do(0, "b", 2), do(0, "c", 2), call(1, "x", 1))))
        view = plain(book)
        table = lists(book, view)
        made = makers(book, view, table)
        self.assertTrue(check_lists(book, view, table, made))
        self.assertNotIn(("x", 1), table)
        for stage in table:
            self.assertFalse(check_lists(book, view, {s: r for s, r in table.items() if s != stage}, made))
            self.assertFalse(check_lists(book, view, table, {s: r for s, r in made.items() if s != stage}))
            without = ({s: r for s, r in table.items() if s != stage}, {s: r for s, r in made.items() if s != stage})
            self.assertFalse(check_lists(book, view, *without))
            rows, pairs = table[stage], made[stage]
            for wrong in (rows[::-1] if len(rows) > 1 else (), rows + rows[-1:], rows[1:], rows + (("z",) * 9,),
                          ((),) + rows):
                self.assertFalse(check_lists(book, view, {**table, stage: wrong}, made))
                self.assertFalse(check_lists(book, view, {**table, stage: wrong}, {**made, stage: pairs * 2}))
            for wrong in (pairs[1:], pairs + pairs, ()):
                self.assertFalse(check_lists(book, view, table, {**made, stage: wrong}))
            for number in (0, -1, pairs[0][0] + 1, 100):
                self.assertFalse(check_lists(book, view, table, {**made, stage: ((number, pairs[0][1]),) + pairs[1:]}))
            for way in (("end",), ("do", 9, 0), ("do", 0, 9), ("call", 2, 0, 7), ("call", 9, 0, 0), ("do", -1, 0),
                        ("do", 0, -1), ("call", 2, -1, 0), ("call", 4, 0, 0), ("do", 2, 0), ("do", 3, 0)):
                if way != pairs[0][1]:
                    self.assertFalse(check_lists(book, view, table, {**made, stage: ((pairs[0][0], way),) + pairs[1:]}))
        more = {**table, ("x", 1): (("q",),)}
        self.assertFalse(check_lists(book, view, more, {**made, ("x", 1): ((1, ("call", 2, 0, 0)),)}))
        self.assertFalse(check_lists(book, view, {}, {}))
        self.assertTrue(check_lists(one_course(1, ()), {}, {}, {}))

    def test_rows_that_are_not_lean_or_missing(self):
        book = one_course(3, (1,), do(0, "a", 1), do(0, "b", 0))
        view = plain(book)
        table = lists(book, view)
        made = makers(book, view, table)
        self.assertTrue(check_lists(book, view, table, made))
        first = ("main", 0)
        more = {**made, first: made[first] + ((3, ("do", 1, 0)),)}
        self.assertFalse(check_lists(book, view, {**table, first: (("a",), ("b", "a"))}, more))
        self.assertFalse(check_lists(book, view, {**table, ("main", 2): ()}, {**made, ("main", 2): ()}))
        for row in (("q",), ("a",)):
            self.assertFalse(check_lists(book, view, {**table, ("main", 1): (row,)}, made))
        # Numbers below 1 would let two calls prove one another.
        ring = one_course(2, (), call(0, "main", 1), call(1, "main", 1))
        empty = {first: ((),), ("main", 1): ((),)}
        for number in (-1, 0, 1):
            wrong = {first: ((number, ("call", 0, 0, 0)),), ("main", 1): ((number, ("call", 1, 0, 0)),)}
            self.assertFalse(check_lists(ring, {}, empty, wrong))

    def test_rings_prove_nothing(self):
        book = one_course(2, (1,), do(0, "h", 0), do(0, "a", 1))
        view = {"h": (), "a": ("a",)}
        right = {("main", 0): (("a",),), ("main", 1): ((),)}
        self.assertTrue(check_lists(book, view, right, makers(book, view, right)))
        for number in (1, 2, 5):
            made = {("main", 0): ((number, ("do", 0, 0)),), ("main", 1): ((1, ("end",)),)}
            self.assertFalse(check_lists(book, view, right, made))
            self.assertFalse(check_lists(book, view, {**right, ("main", 0): ((),)}, made))

    def test_other_right_ways(self):
        book = one_course(3, (1,), do(0, "h", 2), do(2, "a", 1), do(0, "a", 1))
        view = {"h": (), "a": ("a",)}
        table = lists(book, view)
        made = makers(book, view, table)
        self.assertEqual(made[("main", 0)], ((2, ("do", 2, 0)),))
        longer = {**made, ("main", 0): ((3, ("do", 0, 0)),)}
        self.assertTrue(check_lists(book, view, table, longer))
        self.assertFalse(check_lists(book, view, table, {**made, ("main", 0): ((2, ("do", 0, 0)),)}))

    def test_wide_tables(self):
        begun = time.time()
        words = "abcdefgh"
        book = Book((course("m", 4, (3,), call(0, "x", 1), call(1, "x", 2), do(2, "z", 3), call(0, "y", 1)),
                     course("x", 3, (2,), *[do(0, word, 1) for word in words[:7]], *[do(1, word, 2) for word in words]),
                     course("y", 3, (2,), *[do(0, word, 1) for word in words[:7]], *[do(1, word, 2) for word in words])))
        view = plain(book)
        found = lists_to_depth(book, view, 0)
        self.assertEqual(len(found[("x", 0)]), 56)
        with self.assertRaises(Refused):
            lists(book, view)
        small = Book(book.courses[1:])
        table = lists(small, view)
        self.assertTrue(check_lists(small, view, table, makers(small, view, table)))
        rng = random.Random(4)
        for _ in range(6):
            full = full_book(rng, 0.3, 0.02)
            try:
                table = lists(full, plain(full))
            except Refused:
                continue
            made = makers(full, plain(full), table)
            self.assertTrue(check_lists(full, plain(full), table, made))
            enough_depth(full, plain(full), table)
        self.assertLess(time.time() - begun, 30)


class BearingTest(unittest.TestCase):
    def test_small_books(self):
        self.assertEqual(bearing(ORDER, plain(ORDER), lists(ORDER, plain(ORDER))),
                         (("order", 0), ("order", 1), ("order", 2), ("pay", 0), ("pay", 2)))

    def test_other_steps_do_not_matter(self):
        for book, view, table in random_lists(13, 160):
            kept = set(bearing(book, view, table))
            courses = tuple((name, many, ends, tuple(step for k, step in enumerate(steps) if (name, k) in kept))
                            for name, many, ends, steps in book.courses)
            self.assertEqual(lists(Book(courses), view), table)

    def test_lists_by_a_view(self):
        rng = random.Random(6)
        for book in brute.mixed_books(17, 120):
            try:
                table = lists(book, plain(book))
            except Refused:
                continue
            view = {deed: tuple(rng.choice("ab") for _ in range(rng.randint(0, 2))) for deed in book.deeds()}
            by_view = lists_by(table, view)
            try:
                self.assertEqual(by_view, lists(book, view))
            except Refused:
                continue
            self.assertEqual(bearing(book, view, by_view), bear(book, view, by_view))


if __name__ == "__main__":
    unittest.main()
