"""[30], [31], [32]: moments, moves and runs."""

import random
import time
import unittest

import brute
from samples import DEAD, NEST, ORDER, call, chain_of_rank, course, do, full_book, one_course, tall
from stillowed import moments
from stillowed.books import Book
from stillowed.errors import InvalidMoment, InvalidMove, NoEnding, Refused
from stillowed.moments import (all_moments, check_moment, deeds_of, moved, moves, run_moments, start, way_to)

# Useful and useless stages side by side.
MIXED = Book((
    course("main", 5, (3,), do(0, "a", 1), call(1, "x", 2), do(2, "b", 3), do(0, "c", 4), call(0, "dead", 3),
           call(1, "x", 4), do(4, "c", 4), call(2, "far", 3)),
    course("x", 3, (0, 2), call(0, "main", 2), do(1, "b", 2)),
    course("dead", 2, (), do(0, "a", 1), do(1, "a", 0)),
    course("far", 2, (1,), do(0, "d", 1)),
    course("never", 2, (1,), call(0, "x", 1)),
))


def at_of(test, error, function, *told):
    with test.assertRaises(error) as caught:
        function(*told)
    return caught.exception.at


def wrong_place(book, moment):
    """The first wrong place of a tuple of stages, by the words of [30]."""
    good = brute.useful(book)
    reached = {(name, 0) for name in book.names()}
    for _ in book.stages():
        for stage in list(reached):
            for k in brute.leaving(book, stage):
                parts = brute.parts(book, stage, k)
                if len(parts) == 1 or parts[0] in good:
                    reached.add(parts[-1])
    for at, stage in enumerate(moment):
        if stage not in good or (at == 0 and stage not in reached):
            return at
        if at > 0 and not any((moment[at - 1][0], 0) == brute.parts(book, before, k)[0]
                              and brute.parts(book, before, k)[1:] == (stage,)
                              for before in reached if before[0] == stage[0] for k in brute.leaving(book, before)):
            return at
        if at == len(moment) - 1 and stage[0] != book.names()[0]:
            return at
    return None


class StartTest(unittest.TestCase):
    def test_no_ending_goes_ahead_of_all(self):
        calls = ((start, ()), (check_moment, (None,)), (check_moment, ((("main", 1),),)), (way_to, (7,)), (way_to, ((),)),
                 (all_moments, (0,)), (all_moments, (100,)), (moves, ((("main", 1),),)), (moved, ((("main", 1),), None)),
                 (moved, ((), ("leave",))), (run_moments, (None,)), (run_moments, ((),)), (deeds_of, ([],)),
                 (deeds_of, ((),)))
        for function, told in calls:
            with self.assertRaises(NoEnding) as caught:
                function(DEAD, *told)
            self.assertEqual(caught.exception.stage, ("main", 0))

    def test_start(self):
        self.assertEqual(start(ORDER), (("order", 0),))
        self.assertEqual(start(MIXED), (("main", 0),))


class CheckMomentTest(unittest.TestCase):
    def test_moments_of_the_document(self):
        for moment in ((), (("order", 0),), (("pay", 0), ("order", 2)), (("pay", 3), ("order", 2)), (("order", 3),)):
            self.assertIsNone(check_moment(ORDER, moment))
        for many in range(60):
            self.assertIsNone(check_moment(NEST, (("main", 4),) + (("main", 2),) * many))

    def test_wrong_places(self):
        for moment, at in (
                ((("main", 4),), 0), ((("dead", 0), ("main", 3)), 0), ((("x", 1), ("main", 2)), 0),
                ((("x", 0), ("main", 4)), 1), ((("x", 0), ("main", 3)), 1), ((("far", 0), ("main", 2)), 1),
                ((("x", 0),), 0), ((("x", 0), ("main", 2)), None), ((("far", 0), ("main", 3)), None),
                ((("main", 0), ("x", 2)), 1), ((("main", 0), ("x", 2), ("main", 2)), None),
                ((("main", 0), ("x", 2), ("main", 3)), 2), ((("main", 1), ("main", 2)), 1),
                ((("never", 0),), 0), ((("never", 1),), 0), ((("x", 0), ("never", 1)), 1),
                ((("x", 0), ("never", 1), ("main", 2)), 2), ((("main", 5),), 0), ((("gone", 0),), 0),
                ((("x", 0), ("main", 2), None), 2), ((("x", 0), None, ("main", 2)), 1), (((),), 0),
                ((("main", 1), ("x", 1)), 1), ((("main", 0), ("x", 0)), 1)):
            if at is None:
                self.assertIsNone(check_moment(MIXED, moment))
            else:
                self.assertEqual(at_of(self, InvalidMoment, check_moment, MIXED, moment), at, moment)
                self.assertEqual(at_of(self, InvalidMoment, way_to, MIXED, moment), at, moment)

    def test_an_earlier_wrong_place_goes_first(self):
        good = (("main", 0), ("x", 2), ("main", 2))
        wrong = [("main", 4), ("x", 1), None, ("main", 1.0), ["main", 1], ("far", 1.0)]
        for one in wrong:
            for at in range(3):
                moment = good[:at] + (one,) + good[at + 1:]
                found = at_of(self, InvalidMoment, check_moment, MIXED, moment)
                self.assertEqual(found, at)
                self.assertEqual(at_of(self, InvalidMoment, check_moment, MIXED, moment + (None,)), at)

    def test_any_value(self):
        for value in brute.ODD_VALUES:
            if value == () and isinstance(value, tuple):
                self.assertIsNone(check_moment(NEST, value))
                continue
            at = 0 if isinstance(value, tuple) else -1
            if isinstance(value, tuple) and value[0] == ("main", 0):
                at = 1
            self.assertEqual(at_of(self, InvalidMoment, check_moment, NEST, value), at, value)
            self.assertEqual(at_of(self, InvalidMoment, way_to, NEST, value), at, value)
            if isinstance(value, tuple) and value != (("main", 0),):
                self.assertEqual(at_of(self, InvalidMoment, check_moment, NEST, (("main", 0), value)), 1, value)

    def test_the_last_place_belongs_to_the_main_course(self):
        book = Book((course("main", 2, (1,), call(0, "x", 1)), course("x", 2, (0, 1), call(0, "x", 1))))
        self.assertEqual(at_of(self, InvalidMoment, check_moment, book, (("x", 0), ("x", 1))), 1)
        self.assertEqual(at_of(self, InvalidMoment, check_moment, book, (("x", 0), ("x", 1), ("x", 1))), 2)
        self.assertIsNone(check_moment(book, (("x", 0), ("x", 1), ("x", 1), ("main", 1))))

    def test_random_books(self):
        rng = random.Random(61)
        right = 0
        for book in brute.mixed_books(61, 400, courses=3, stages=3):
            found = brute.reachable(book, 6, 1500)
            if not 0 < len(found) < 1500:
                continue
            stages = book.stages()
            tried = [tuple(rng.choice(stages) for _ in range(rng.randint(1, 3))) for _ in range(40)]
            for moment in tried + list(found)[:50]:
                at = wrong_place(book, moment)
                self.assertEqual(at is None, moment in found)
                if at is None:
                    right += 1
                    self.assertIsNone(check_moment(book, moment))
                else:
                    self.assertEqual(at_of(self, InvalidMoment, check_moment, book, moment), at)
        self.assertGreater(right, 500)


class WayToTest(unittest.TestCase):
    def test_shortest_runs(self):
        checked = 0
        for book in brute.mixed_books(62, 300):
            if (book.main(), 0) not in brute.useful(book):
                continue
            runs = brute.runs(book, start(book), 7, only_useful=True)
            if runs is None:
                continue
            best = {}
            for run, moment, _ in runs:
                best.setdefault(moment, len(run))
            for moment, many in best.items():
                run = way_to(book, moment)
                self.assertEqual(len(run), many)
                self.assertEqual(run_moments(book, run)[-1], moment)
                checked += 1
            if () not in best:
                self.assertGreater(len(way_to(book, ())), 7)
        self.assertGreater(checked, 1000)

    def test_the_way_into_each_call_is_chosen_by_its_whole_length(self):
        # The call that goes on at 3 leaves stage 1 or stage 2; the way to stage 1 passes a long call.
        book = Book((course("main", 4, (3,), call(0, "x", 1), call(1, "y", 3), do(0, "a", 2), call(2, "y", 3)),
                     course("x", 4, (3,), *[do(n, "a", n + 1) for n in range(3)]), course("y", 1, (0,))))
        self.assertEqual(way_to(book, (("y", 0), ("main", 3))), (("do", 2), ("call", 3)))
        self.assertEqual(len(way_to(book, (("main", 1),))), 5)

    def test_the_end_and_the_start(self):
        self.assertEqual(way_to(ORDER, start(ORDER)), ())
        self.assertEqual(len(way_to(ORDER, ())), 6)
        self.assertEqual(run_moments(ORDER, way_to(ORDER, ()))[-1], ())

    def test_the_limit_of_moves(self):
        for rank in (19999, 20000):
            book = chain_of_rank(rank)
            self.assertEqual(len(way_to(book, ())), rank)
            self.assertEqual(run_moments(one_course(1, (0,)), (("leave",),)), ((("main", 0),), ()))
        with self.assertRaises(Refused) as caught:
            way_to(chain_of_rank(20001), ())
        self.assertEqual(caught.exception.word, "long")
        for rank, refused in ((19999, False), (20000, True), (20001, True)):
            inner = chain_of_rank(rank)
            book = Book((course("main", 2, (1,), call(0, "a", 1)),) + inner.courses)
            if refused:
                with self.assertRaises(Refused):
                    way_to(book, (("main", 1),))
            else:
                self.assertEqual(len(way_to(book, (("main", 1),))), 20000)
        # Deep moments: one call for each stage, behind one deed each.
        deep = (("main", 0),) + (("main", 2),) * 10000
        run = way_to(NEST, deep)
        self.assertEqual(run, (("do", 0), ("call", 2)) * 10000)
        with self.assertRaises(Refused):
            way_to(NEST, (("main", 1),) + deep[1:])
        with self.assertRaises(Refused):
            way_to(NEST, deep + (("main", 2),))
        self.assertEqual(at_of(self, InvalidMoment, way_to, NEST, deep + (("main", 3),)), 10001)


class AllMomentsTest(unittest.TestCase):
    def test_in_the_order_of_the_search(self):
        self.assertEqual(all_moments(ORDER, 9), (
            (("order", 0),), (("order", 1),), (("pay", 0), ("order", 2)), (("pay", 1), ("order", 2)),
            (("pay", 2), ("order", 2)), (("order", 2),), (("pay", 3), ("order", 2)), (("order", 3),), ()))
        book = one_course(3, (0,), do(0, "b", 2), do(0, "a", 1), do(1, "a", 0), do(2, "a", 0))
        self.assertEqual(all_moments(book, 4), ((("main", 0),), (), (("main", 2),), (("main", 1),)))

    def test_the_limit(self):
        for most in (0, 1, 8):
            with self.assertRaises(Refused) as caught:
                all_moments(ORDER, most)
            self.assertEqual(caught.exception.word, "wide")
        self.assertEqual(len(all_moments(ORDER, 9)), 9)
        self.assertEqual(len(all_moments(ORDER, 2000)), 9)
        for most in (0, 100, 2000):
            with self.assertRaises(Refused):
                all_moments(NEST, most)

    def test_random_books(self):
        for book in brute.mixed_books(63, 300):
            if (book.main(), 0) not in brute.useful(book):
                continue
            queue = [start(book)]
            at = 0
            good = brute.useful(book)
            while at < len(queue) and len(queue) <= 40:
                for move in brute.let(book, good, queue[at]):
                    after = brute.behind(book, queue[at], move)
                    if after not in queue:
                        queue.append(after)
                at += 1
            if len(queue) <= 40:
                self.assertEqual(all_moments(book, len(queue)), tuple(queue))
                with self.assertRaises(Refused):
                    all_moments(book, len(queue) - 1)
            else:
                with self.assertRaises(Refused):
                    all_moments(book, 40)


class MovesTest(unittest.TestCase):
    def test_moves(self):
        self.assertEqual(moves(MIXED, (("main", 0),)), (("do", 0),))
        self.assertEqual(moves(MIXED, (("main", 1),)), (("call", 1),))
        self.assertEqual(moves(MIXED, (("x", 0), ("main", 2))), (("leave",), ("call", 0)))
        self.assertEqual(moves(MIXED, (("main", 2),)), (("do", 2), ("call", 7)))
        self.assertEqual(moves(MIXED, ()), ())
        self.assertEqual(moves(NEST, (("main", 4),)), (("leave",),))

    def test_words_of_moved(self):
        moment = (("main", 0),)
        forms = [value for value in brute.ODD_VALUES if value != ("leave",)]
        forms += [("leave", None), ("do", 0, 0), ("do", 1.0), ("call", False), ["do", 0], ("Do", 0), ("do", -1),
                  ("call", "0"), (0, "do"), (b"do", 0), ("step", 0), "leave", (["do"], 0)]
        for value in forms:
            self.assertEqual(at_of(self, InvalidMove, moved, MIXED, moment, value), "form", value)
            self.assertEqual(at_of(self, InvalidMove, moved, MIXED, (), value), "form", value)
        for value in (("leave",), ("do", 0), ("call", 10 ** 30), ("do", 99)):
            self.assertEqual(at_of(self, InvalidMove, moved, MIXED, (), value), "over")
        self.assertEqual(at_of(self, InvalidMove, moved, MIXED, moment, ("leave",)), "leave")
        for value in (("do", 1), ("call", 1), ("call", 0), ("do", 4), ("do", 2), ("do", 8), ("call", 10 ** 30)):
            self.assertEqual(at_of(self, InvalidMove, moved, MIXED, moment, value), "step", value)
        for value in (("do", 3), ("call", 4)):
            self.assertEqual(at_of(self, InvalidMove, moved, MIXED, moment, value), "useless", value)
        self.assertEqual(at_of(self, InvalidMove, moved, MIXED, (("main", 1),), ("call", 5)), "useless")

    def test_moved(self):
        self.assertEqual(moved(MIXED, (("main", 0),), ("do", 0)), (("main", 1),))
        self.assertEqual(moved(MIXED, (("main", 1),), ("call", 1)), (("x", 0), ("main", 2)))
        self.assertEqual(moved(MIXED, (("x", 0), ("main", 2)), ("leave",)), (("main", 2),))
        self.assertEqual(moved(MIXED, (("main", 3),), ("leave",)), ())
        self.assertEqual(moved(MIXED, (("x", 0), ("main", 2)), ("call", 0)), (("main", 0), ("x", 2), ("main", 2)))

    def test_random_books(self):
        for book in brute.mixed_books(64, 200):
            good = brute.useful(book)
            for moment in list(brute.reachable(book, 3, 60)):
                expected = brute.let(book, good, moment)
                self.assertEqual(moves(book, moment), tuple(expected))
                for move in expected:
                    self.assertEqual(moved(book, moment, move), brute.behind(book, moment, move))
                for move in brute.raw_moves(book, moment):
                    if move not in expected:
                        self.assertEqual(at_of(self, InvalidMove, moved, book, moment, move), "useless")


class RunsTest(unittest.TestCase):
    def test_a_run(self):
        run = (("do", 0), ("call", 1), ("do", 1), ("do", 2), ("leave",), ("do", 2), ("leave",))
        self.assertEqual(run_moments(ORDER, run), (
            (("order", 0),), (("order", 1),), (("pay", 0), ("order", 2)), (("pay", 2), ("order", 2)),
            (("pay", 3), ("order", 2)), (("order", 2),), (("order", 3),), ()))
        self.assertEqual(deeds_of(ORDER, run), ("take", "card", "stamp", "send"))
        self.assertEqual(run_moments(ORDER, ()), ((("order", 0),),))
        self.assertEqual(deeds_of(ORDER, ()), ())

    def test_the_first_wrong_place(self):
        run = (("do", 0), ("call", 1), ("do", 1), ("do", 2), ("leave",), ("do", 2), ("leave",))
        wrong = [value for value in brute.ODD_VALUES if value != ("leave",)] + [("do", 3), ("call", 2), ("do", 99)]
        for value in wrong:
            for at in range(len(run) + 1):
                for after in ((), run[at:], (None,)):
                    broken = run[:at] + (value,) + after
                    self.assertEqual(at_of(self, InvalidMove, run_moments, ORDER, broken), at, value)
                    self.assertEqual(at_of(self, InvalidMove, deeds_of, ORDER, broken), at, value)
        self.assertEqual(at_of(self, InvalidMove, run_moments, ORDER, run + (("leave",),)), len(run))
        self.assertEqual(at_of(self, InvalidMove, deeds_of, ORDER, (("leave",),)), 0)
        self.assertEqual(at_of(self, InvalidMove, run_moments, MIXED, (("do", 0), ("call", 5))), 1)
        self.assertEqual(at_of(self, InvalidMove, deeds_of, MIXED, (("do", 3), ("do", 6))), 0)

    def test_no_tuple(self):
        for value in brute.ODD_VALUES:
            if not isinstance(value, tuple):
                self.assertEqual(at_of(self, InvalidMove, run_moments, ORDER, value), -1)
                self.assertEqual(at_of(self, InvalidMove, deeds_of, ORDER, value), -1)

    def test_random_runs(self):
        for book in brute.mixed_books(65, 150):
            if (book.main(), 0) not in brute.useful(book):
                continue
            for run, moment, deeds in (brute.runs(book, start(book), 5, only_useful=True) or [])[:200]:
                self.assertEqual(run_moments(book, run)[-1], moment)
                self.assertEqual(len(run_moments(book, run)), len(run) + 1)
                self.assertEqual(deeds_of(book, run), deeds)

    def test_long_runs_in_a_short_time(self):
        began = time.time()
        run = (("do", 0), ("call", 2)) * 50000
        self.assertEqual(deeds_of(NEST, run), ("a",) * 50000)
        loop = one_course(1, (0,), do(0, "a", 0))
        self.assertEqual(len(run_moments(loop, (("do", 0),) * 100000)), 100001)
        deep = run_moments(NEST, run[:2000])[-1]
        self.assertEqual(deep, (("main", 0),) + (("main", 2),) * 1000)
        check_moment(NEST, deep)
        rng = random.Random(66)
        for _ in range(10):
            book = full_book(rng)
            try:
                found = all_moments(book, 2000)
            except Refused:
                found = run_moments(book, way_to(book, ()))
            for moment in found[::97]:
                check_moment(book, moment)
                moves(book, moment)
                self.assertEqual(run_moments(book, way_to(book, moment))[-1], moment)
        book = tall((3, 20, 20))
        self.assertEqual(run_moments(book, way_to(book, ()))[-1], ())
        self.assertLess(time.time() - began, 30)

    def test_it_is_one_module(self):
        self.assertEqual(moments.start(NEST), (("main", 0),))


if __name__ == "__main__":
    unittest.main()
