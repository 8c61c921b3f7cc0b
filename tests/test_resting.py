"""[68], [72] to [74]: stretches of rest, free runs, who can load a desk, and late notes."""

import itertools
import random
import time
import unittest

import brute
import sound
from samples import NEST, ORDER, TORN, call, chain_of_rank, course, do, full_book, one_course
from stillowed.books import Book
from stillowed.dealings import deeds_at, desks_of
from stillowed.errors import InvalidDealing, InvalidMove, InvalidNumber, NoEnding, Refused
from stillowed.lengths import plain
from stillowed.loads import hidden, load_at
from stillowed.moments import check_moment, run_moments
from stillowed.owed import OwedTable, court
from stillowed.resting import free_run, late_note, loaders, stretches
from stillowed.rows import first_fit
from stillowed.texts import book_of, read_courses
from tables import looped_book
from test_loads import EXAMPLE, RING, free_moves, hidden_tables


def fault(case, function, *told):
    with case.assertRaises((InvalidDealing, InvalidMove, InvalidNumber, NoEnding, Refused)) as caught:
        function(*told)
    return type(caught.exception), list(vars(caught.exception).values())[0]


def near_moments(table, movers, moment, most, depth):
    """A dict from the moments to which at most so many free moves lead, through so many stages, to the fewest moves."""
    found = {moment: 0}
    level = [moment]
    for many in range(1, most + 1):
        after = []
        for here in level:
            for move in free_moves(table, movers, here):
                other = brute.behind(table.book, here, move)
                if other not in found and len(other) <= depth:
                    found[other] = many
                    after.append(other)
        level = after[:400]
    return found


class StretchesTest(unittest.TestCase):
    def test_small_runs(self):
        run = (("call", 0), ("do", 0), ("do", 1), ("leave",), ("do", 1), ("leave",))
        self.assertEqual([run_moments(EXAMPLE.book, run)[at] for at in (2, 4)], [(("x", 1), ("main", 1)), (("main", 1),)])
        self.assertEqual(stretches(EXAMPLE, run), ((0, 2, (1,)), (3, 4, (0,)), (5, 6, ())))
        self.assertEqual(stretches(EXAMPLE, ()), ((0, 0, (0,)),))
        self.assertEqual(stretches(EXAMPLE, run[:3]), ((0, 2, (1,)), (3, 3, (0,))))
        self.assertEqual(stretches(EXAMPLE, run[:2]), ((0, 2, (1,)),))
        # All deeds are shown, some by several deeds.
        table = court(ORDER, {"take": ("t", "k"), "card": ("c",), "stamp": ("s",), "send": ("z",)})
        run = (("do", 0), ("call", 1), ("do", 0), ("leave",), ("do", 2), ("leave",))
        self.assertEqual(stretches(table, run), ((0, 0, (0, 1, 2, 3)), (1, 2, (0, 1)), (3, 4, (0,)), (5, 6, ())))

    def test_wrong_runs(self):
        for run, at in ((None, -1), ([], -1), ((("do", 1),), 0), ((("call", 0), ("leave",), ("leave",)), 2), ((None,), 0),
                        ((("call", 0), ("do", 5)), 1)):
            self.assertEqual(fault(self, stretches, EXAMPLE, run), (InvalidMove, at))
        for value in brute.ODD_VALUES:
            if value != ():
                self.assertEqual(fault(self, stretches, EXAMPLE, value)[0], InvalidMove)

    def test_random_runs(self):
        rng = random.Random(681)
        grown = 0
        for table, _ in hidden_tables(681, 150):
            book, view = table.book, table.view
            moment, run = ((book.main(), 0),), ()
            for _ in range(12):
                moves = brute.let(book, brute.useful(book), moment)
                if moves:
                    run += (rng.choice(moves),)
                    moment = brute.behind(book, moment, run[-1])
            moments = run_moments(book, run)
            shown = [at for at, move in enumerate(run) if any(view[deed] for deed in brute.deed_of(book, moments[at], move))]
            found = stretches(table, run)
            self.assertEqual([first for first, _, _ in found], [0] + [at + 1 for at in shown])
            self.assertEqual([last for _, last, _ in found], shown + [len(run)])
            for first, last, places in found:
                before, after = table.owed(moments[first]), table.owed(moments[last])
                self.assertIsNotNone(places)
                self.assertEqual(places, first_fit(before, after))
                grown += before != after
        self.assertGreater(grown, 10)


class FreeRunTest(unittest.TestCase):
    def test_small_runs(self):
        start = (("main", 0),)
        self.assertEqual(free_run(EXAMPLE, ("h",), start, (("x", 1), ("main", 1))), (("call", 0), ("do", 0)))
        self.assertIsNone(free_run(EXAMPLE, (), start, (("x", 1), ("main", 1))))
        self.assertEqual(free_run(EXAMPLE, (), start, (("main", 1),)), (("call", 0), ("leave",)))
        self.assertEqual(free_run(EXAMPLE, (), start, start), ())
        self.assertEqual(free_run(EXAMPLE, (), (), ()), ())
        self.assertIsNone(free_run(EXAMPLE, (), (), start))
        self.assertIsNone(free_run(EXAMPLE, (), (("main", 1),), ()))
        self.assertEqual(free_run(EXAMPLE, (), (("x", 2), ("main", 2)), ()), (("leave",), ("leave",)))
        self.assertIsNone(free_run(EXAMPLE, ("h",), (("main", 1),), start))
        deep = (("main", 0), ("main", 2), ("main", 2))
        self.assertEqual(free_run(RING, ("h",), start, deep), (("do", 0), ("call", 2)) * 2)
        self.assertIsNone(free_run(RING, (), start, deep))

    def test_a_stage_that_is_left_and_opened_again(self):
        # From the second stage of x only leaving and calling x anew leads back to its first one.
        book = Book((course("main", 2, (1,), call(0, "x", 0), do(0, "a", 1)), course("x", 2, (0, 1), do(0, "h", 1))))
        table = court(book, {"a": ("a",), "h": ()})
        here, there = (("x", 1), ("main", 0)), (("x", 0), ("main", 0))
        self.assertEqual(free_run(table, ("h",), here, there), (("leave",), ("call", 0)))
        self.assertEqual(free_run(table, (), there, there), ())
        self.assertIsNone(free_run(table, (), there, here))
        self.assertEqual(free_run(table, ("h",), there, here), (("do", 0),))

    def test_random_moments(self):
        rng = random.Random(721)
        seen = [0, 0]
        for table, movers in hidden_tables(721, 150):
            book = table.book
            moments = sound.moments(book, 3) + [()]
            for _ in range(4):
                moment = rng.choice(moments)
                near = near_moments(table, movers, moment, 9, 5)
                for goal in rng.sample(sorted(near), min(3, len(near))) + [rng.choice(moments)]:
                    run = free_run(table, movers, moment, goal)
                    seen[run is None] += 1
                    if run is None:
                        self.assertNotIn(goal, near)
                        continue
                    here = moment
                    for move in run:
                        self.assertIn(move, free_moves(table, movers, here))
                        here = brute.behind(book, here, move)
                    self.assertEqual(here, goal)
                    if goal in near:
                        self.assertLessEqual(len(run), near[goal])
                    # Runs are told by depth up to 5 only; shorter ones need more stages than that.
                    if len(run) < near.get(goal, 10):
                        self.assertGreater(max(len(m) for m in self.along(book, moment, run)), 4)
        self.assertGreater(min(seen), 50)

    def along(self, book, moment, run):
        found = [moment]
        for move in run:
            found.append(brute.behind(book, found[-1], move))
        return found

    def test_runs_of_20_000_moves_and_beyond(self):
        for rank, wanted in ((19999, True), (20000, True), (20001, False)):
            book = chain_of_rank(rank)
            table = court(book, {"x": ()})
            start = ((book.main(), 0),)
            if wanted:
                self.assertEqual(len(free_run(table, ("x",), start, ())), rank)
            else:
                self.assertEqual(fault(self, free_run, table, ("x",), start, ()), (Refused, "long"))
            self.assertIsNone(free_run(table, (), start, ()))
        # A run that builds up a deep moment, and takes one down.
        deep = (("main", 0),) + (("main", 2),) * 59
        self.assertEqual(len(free_run(RING, ("h",), (("main", 0),), deep)), 2 * 59)
        self.assertIsNone(free_run(RING, ("h",), deep, (("main", 0),)))

    def test_movers_that_are_shown_go_first(self):
        huge = court(chain_of_rank(60000), {"x": ()})
        start = ((huge.book.main(), 0),)
        self.assertEqual(fault(self, free_run, huge, ("x", "y"), start, ()), (Refused, "shown"))
        for movers in (("a",), ("h", "zz"), ("b", "h")):
            self.assertEqual(fault(self, free_run, EXAMPLE, movers, (("main", 0),), ()), (Refused, "shown"))


class LoadersTest(unittest.TestCase):
    def test_small_books(self):
        start = (("main", 0),)
        self.assertEqual(loaders(EXAMPLE, (("a", "p"), ("b", "p"), ("h", "q")), start, 1), (("q",),))
        self.assertEqual(loaders(EXAMPLE, (("a", "p"), ("b", "p"), ("h", "q")), start, 2), ())
        # The desk p has a shown deed.
        self.assertEqual(loaders(EXAMPLE, (("a", "p"), ("b", "r"), ("h", "p")), start, 1), ())
        self.assertEqual(loaders(RING, (("a", "p"), ("h", "q")), start, 10 ** 18), (("q",),))
        # Calls and leaves alone are enough.
        book = book_of(read_courses("main: [(x)]\nx: b [h]"))
        table = court(book, {"b": ("b",), "h": ()})
        self.assertEqual(loaders(table, (("b", "p"), ("h", "q")), start, 1), ((),))
        self.assertEqual(loaders(table, (("b", "p"), ("h", "q")), start, 2), ())

    def test_several_least_lots(self):
        book = book_of(read_courses("main: [g b] [h [k b]] [l [h b]]"))
        table = court(book, {"b": ("b",), "g": (), "h": (), "k": (), "l": ()})
        dealing = (("b", "z"), ("g", "d"), ("h", "a"), ("k", "c"), ("l", "e"))
        start = (("main", 0),)
        self.assertEqual(loaders(table, dealing, start, 1), (("d",), ("a", "c"), ("a", "e")))
        self.assertEqual(loaders(table, (("b", "z"), ("g", "g"), ("h", "h"), ("k", "h"), ("l", "h")), start, 1), (("g",), ("h",)))
        self.assertEqual(loaders(table, (("b", "z"), ("g", "z"), ("h", "h"), ("k", "h"), ("l", "k")), start, 1), (("h",),))

    def test_random_tables(self):
        rng = random.Random(731)
        seen = {}
        for table, _ in hidden_tables(731, 120):
            book = table.book
            dealing = tuple((deed, rng.choice("pqrs")) for deed in book.deeds())
            desks = [desk for desk in desks_of(dealing) if all(deed in hidden(table) for deed in deeds_at(dealing, desk))]
            moment = rng.choice(sound.moments(book, 2))
            gain = rng.randint(1, 3)
            able = []
            for many in range(len(desks) + 1):
                for lot in itertools.combinations(desks, many):
                    movers = tuple(deed for deed in book.deeds() if dict(dealing)[deed] in lot)
                    load = load_at(table, movers, moment)
                    if load is None or load >= gain:
                        able.append(lot)
            wanted = tuple(lot for lot in able if not any(set(other) < set(lot) for other in able))
            self.assertEqual(loaders(table, dealing, moment, gain), wanted)
            seen[len(wanted[0]) if wanted else None] = True
        self.assertGreater(len(seen), 2)

    def test_errors_in_order(self):
        start = (("main", 0),)
        right = (("a", "p"), ("b", "p"), ("h", "q"))
        for gain in (-1, 0, 10 ** 18 + 1):
            self.assertEqual(fault(self, loaders, EXAMPLE, right, start, gain), (InvalidNumber, "gain"))
            self.assertEqual(fault(self, loaders, EXAMPLE, right[:2], start, gain), (InvalidDealing, 2))
        for value, at in ((None, -1), ([], -1), ((("a", "P"),), 0), (right + (("z", "z"),), 3)):
            self.assertEqual(fault(self, loaders, EXAMPLE, value, start, 1), (InvalidDealing, at))


class LateNoteTest(unittest.TestCase):
    def test_small_books(self):
        self.assertEqual(late_note(EXAMPLE), ((("x", 0), ("main", 1)), ("do", 0)))
        self.assertIsNone(late_note(court(NEST, plain(NEST))))
        # At the outermost stage a deed is put behind the row; and everywhere the same deed is owed.
        for text, view in (("main: [h b]", {"b": ("b",), "h": ()}), ("main: (x) b\nx: [h b]", {"b": ("b",), "h": ()}),
                           ("main: [h (main) b]", {"b": ("b",), "h": ()}), ("main: (x) b a b\nx: [h b a]", {"a": ("a",), "b": ("b",), "h": ()}),
                           ("main: (x) b\nx: [h b a]", {"a": ("a",), "b": ("b",), "h": ()})):
            self.assertIsNone(late_note(court(book_of(read_courses(text)), view)), text)
        for text, view in (("main: [h a] b", {"a": ("a",), "b": ("b",), "h": ()}), ("main: (x) a\nx: [h b a]", {"a": ("a",), "b": ("b",), "h": ()}),
                           ("main: (x) b b\nx: [h b a]", {"a": ("a",), "b": ("b",), "h": ()}),
                           ("main: (x) b\nx: (y) b\ny: [h a b]", {"a": ("a",), "b": ("b",), "h": ()})):
            table = court(book_of(read_courses(text)), view)
            self.check_late(table, late_note(table))
        # The deeds are owed again and again over several courses, until at last they are not.
        text = "main: (x) {last}\nx: (y) a b a\ny: (z) b\nz: [h a b]"
        view = {"a": ("a",), "b": ("b",), "h": ()}
        table = court(book_of(read_courses(text.format(last="b"))), view)
        self.check_late(table, late_note(table))
        text = "main: (x) {last}\nx: (y) a b a\ny: (z) a b\nz: [h a b]"
        self.assertIsNone(late_note(court(book_of(read_courses(text.format(last="b"))), view)))
        table = court(book_of(read_courses(text.format(last="b b"))), view)
        self.check_late(table, late_note(table))

    def check_late(self, table, found):
        moment, move = found
        check_moment(table.book, moment)
        self.assertIn(move, free_moves(table, hidden(table), moment))
        before, after = table.owed(moment), table.owed(brute.behind(table.book, moment, move))
        self.assertNotEqual(after[:len(before)], before)

    def test_random_tables(self):
        rng = random.Random(741)
        seen = [0, 0]
        tables = [table for table, _ in hidden_tables(741, 150)]
        for _ in range(60):
            book = looped_book(rng, deeds="abh")
            view = {deed: () if deed == "h" else (deed if rng.random() < 0.7 else "a",) for deed in book.deeds()}
            tables.append(court(book, view))
        for table in tables:
            found = late_note(table)
            seen[found is None] += 1
            if found is not None:
                self.check_late(table, found)
                continue
            for moment in sound.moments(table.book, 3)[:150]:
                before = table.owed(moment)
                for move in free_moves(table, hidden(table), moment):
                    self.assertEqual(table.owed(brute.behind(table.book, moment, move))[:len(before)], before)
        self.assertGreater(min(seen), 20)


class LimitsTest(unittest.TestCase):
    def test_at_the_limits(self):
        began = time.time()
        rng = random.Random(742)
        made = 0
        for _ in range(12):
            book = full_book(rng)
            for shown in book.deeds()[:4]:
                table = court(book, {deed: (deed,) if deed == shown else () for deed in book.deeds()})
                if isinstance(table, OwedTable):
                    made += 1
                    late_note(table)
                    moments = sound.moments(book, 2)
                    for _ in range(5):
                        free_run(table, hidden(table), rng.choice(moments), rng.choice(moments))
                    dealing = tuple((deed, "z" if deed == shown else rng.choice("pqrst")) for deed in book.deeds())
                    loaders(table, dealing, rng.choice(moments), 1)
        self.assertGreater(made, 0)
        self.assertLess(time.time() - began, 15)


if __name__ == "__main__":
    unittest.main()
