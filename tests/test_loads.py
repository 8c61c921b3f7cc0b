"""[68] to [72]: what a resting desk can be made to owe."""

import random
import time
import unittest

import brute
from brute import ODD_VALUES
from samples import NEST, ORDER, call, course, do, full_book, one_course
from stillowed.books import Book
from stillowed.debts import debt
from stillowed.errors import InvalidNumber, Refused
from stillowed.lengths import plain
from stillowed.loads import check_loads, hidden, left_free, load_at, loaded, loading_steps, loads, peak
from stillowed.owed import OwedTable, court
from stillowed.texts import book_of, read_courses

EXAMPLE = court(book_of(read_courses("main: (x) a\nx: [h b]")), {"a": ("a",), "b": ("b",), "h": ()})
# Each h opens main anew and leaves an a owed behind it.
RING = court(book_of(read_courses("main: [h (main)] a")), {"a": ("a",), "h": ()})
MOST = 3000


def hidden_tables(seed, many):
    """Triples (table, movers, rng) by views that hide some deeds."""
    rng = random.Random(seed)
    found = []
    for book in brute.mixed_books(seed, many, deeds=4):
        if (book.main(), 0) in brute.useful(book):
            for odds in (0.4, 0.7):
                view = {deed: () if rng.random() < odds else (rng.choice("ab"),) for deed in book.deeds()}
                table = court(book, view)
                if isinstance(table, OwedTable):
                    movers = hidden(table)
                    found.append((table, movers))
                    found.append((table, tuple(deed for deed in movers if rng.random() < 0.5)))
    return found


def free_moves(table, movers, moment):
    """The free moves that are let at a moment."""
    book = table.book
    return [move for move in brute.let(book, brute.useful(book), moment)
            if move[0] != "do" or brute.deed_of(book, moment, move)[0] in movers]


def free_moments(table, movers, moment, depth):
    """All moments to which free moves lead, through moments of at most so many stages; None if there are many."""
    found = {moment}
    waiting = [moment]
    while waiting:
        here = waiting.pop()
        for move in free_moves(table, movers, here):
            after = brute.behind(table.book, here, move)
            if after not in found and len(after) <= depth:
                found.add(after)
                waiting.append(after)
        if len(found) > MOST:
            return None
    return found


def piles(table, movers, stage, depth):
    """The piles of a stage: as if its course were the main one, and without leaving it."""
    found = free_moments(table, movers, (stage,), depth)
    if found is None:
        return None
    return {moment for moment in found if moment}


class StepsTest(unittest.TestCase):
    def test_example(self):
        self.assertEqual(hidden(EXAMPLE), ("h",))
        self.assertEqual(loading_steps(EXAMPLE), (("x", 0),))
        self.assertEqual(left_free(EXAMPLE, ("h",)), (("main", 2), ("x", 0), ("x", 2)))
        self.assertEqual(left_free(EXAMPLE, ()), (("main", 2), ("x", 0), ("x", 2)))
        self.assertEqual(loads(EXAMPLE, ("h",)), {("main", 0): 2, ("main", 1): 1, ("main", 2): 0, ("x", 0): 1,
                                                  ("x", 1): 1, ("x", 2): 0})
        self.assertEqual(loads(EXAMPLE, ())[("main", 0)], 1)
        self.assertEqual(loads(RING, ("h",)), {("main", 0): None, ("main", 1): None, ("main", 2): 1, ("main", 3): 0})

    def test_loading_steps(self):
        loading = 0
        for table, movers in hidden_tables(61, 120):
            book = table.book
            found = loading_steps(table)
            loading += len(found)
            self.assertEqual(found, tuple(sorted(set(found))))
            for stage in table.rows:
                for k in brute.leaving(book, stage):
                    parts = brute.parts(book, stage, k)
                    step = book.steps(stage[0])[k]
                    free = step[1] == "call" or table.view[step[2]] == ()
                    grows = all(part in table.rows for part in parts) and free and (
                        len(table.owed(parts)) > len(table.rows[stage]))
                    self.assertEqual((stage[0], k) in found, grows)
        self.assertGreater(loading, 20)

    def test_left_free(self):
        for table, movers in hidden_tables(62, 100):
            found = left_free(table, movers)
            self.assertEqual(found, tuple(sorted(found)))
            for stage in table.rows:
                moments = free_moments(table, movers, (stage,), 5)
                if moments is not None:
                    self.assertTrue(() not in moments or stage in found)
                    if stage in found:
                        self.assertEqual(table.rows[stage], ())
            if movers == hidden(table):
                self.assertEqual(found, tuple(stage for stage in sorted(table.rows) if table.rows[stage] == ()))
        calls = court(book_of(read_courses("m: (x) a | a\nx: h (x) | k")), {"a": ("a",), "h": (), "k": ()})
        self.assertEqual([stage for stage in left_free(calls, ("h",))], [stage for stage in calls.rows
                                                                         if calls.book.is_end(stage)])
        self.assertIn(("x", 0), left_free(calls, ("k",)))

    def test_movers_that_are_shown(self):
        moment = (("main", 0),)
        for movers in (("a",), ("h", "zz"), ("b", "h"), ("aaaaa",)):
            for function, more in ((left_free, ()), (loads, ()), (check_loads, (None,)), (peak, (("main", 0), -1)),
                                   (load_at, (moment,)), (loaded, (moment, -1))):
                with self.assertRaises(Refused) as caught:
                    function(EXAMPLE, movers, *more)
                self.assertEqual(caught.exception.word, "shown")


class LoadsTest(unittest.TestCase):
    def test_against_piles(self):
        seen = set()
        for table, movers in hidden_tables(63, 110):
            found = loads(table, movers)
            self.assertEqual(list(found), sorted(table.rows))
            self.assertTrue(check_loads(table, movers, found))
            for stage in table.rows:
                every = piles(table, movers, stage, 6)
                if every is None:
                    continue
                debts = [debt(table, moment) for moment in every]
                seen.add(found[stage])
                if found[stage] is not None:
                    self.assertLessEqual(max(debts), found[stage])
                    self.assertIsNotNone(peak(table, movers, stage, found[stage]))
                    self.assertIsNone(peak(table, movers, stage, found[stage] + 1))
                else:
                    self.assertGreaterEqual(debt(table, peak(table, movers, stage, 50)), 50)
                for wanted in range(5):
                    sizes = [len(moment) for moment in every if debt(table, moment) >= wanted]
                    low = peak(table, movers, stage, wanted)
                    if sizes and min(sizes) < 5:
                        self.assertEqual(len(low), min(sizes))
                        self.assertIn(low, every)
                        self.assertGreaterEqual(debt(table, low), wanted)
        self.assertLessEqual({None, 0, 1, 2}, seen)

    def test_checks(self):
        for table, movers in hidden_tables(64, 40) + [(EXAMPLE, ("h",)), (RING, ("h",)), (RING, ())]:
            right = loads(table, movers)
            self.assertTrue(check_loads(table, movers, {stage: None for stage in right}))
            greater = {stage: None if right[stage] is None else right[stage] + 3 for stage in right}
            self.assertTrue(check_loads(table, movers, greater))
            for stage in right:
                if right[stage] is None:
                    self.assertIs(check_loads(table, movers, {**right, stage: 10 ** 6}), False)
                elif right[stage] > 0:
                    self.assertIs(check_loads(table, movers, {**right, stage: right[stage] - 1}), False)
                else:
                    self.assertIs(check_loads(table, movers, {**right, stage: -1}), False)
                for value in (True, "a", 1.0, (), ("main", 0)):
                    self.assertIs(check_loads(table, movers, {**right, stage: value}), False)
                self.assertIs(check_loads(table, movers, {s: n for s, n in right.items() if s != stage}), False)
                other = {s if s != stage else ("nope", 0): n for s, n in right.items()}
                self.assertIs(check_loads(table, movers, other), False)
            self.assertIs(check_loads(table, movers, {**right, "more": 0}), False)
        for value in ODD_VALUES:
            self.assertIs(check_loads(EXAMPLE, ("h",), value), False)

    def test_left_calls_carry_on(self):
        # Behind x, which can be left freely, h leads to what owes more.
        table = court(book_of(read_courses("m: (x) [h b] a\nx: [k]")), {"a": ("a",), "b": ("b",), "h": (), "k": ()})
        self.assertEqual(loads(table, ("h", "k"))[("m", 0)], 2)
        self.assertEqual(loads(table, ("h",))[("m", 0)], 2)
        self.assertEqual(loads(table, ("k",))[("m", 0)], 1)
        needs = court(book_of(read_courses("m: (x) [h b] a\nx: k")), {"a": ("a",), "b": ("b",), "h": (), "k": ()})
        self.assertEqual(loads(needs, ("h",))[("m", 0)], 1)
        right = loads(needs, ("h", "k"))
        self.assertEqual(right[("m", 0)], 2)
        self.assertFalse(check_loads(needs, ("h", "k"), loads(needs, ("h",))))
        self.assertTrue(check_loads(needs, ("h",), right))

    def test_refused_numbers(self):
        for number in (-1, 401, 10 ** 20):
            with self.assertRaises(InvalidNumber) as caught:
                peak(RING, ("h",), ("main", 0), number)
            self.assertEqual(caught.exception.word, "wanted")
        self.assertEqual(debt(RING, peak(RING, ("h",), ("main", 0), 400)), 400)
        for number in (-1, 201):
            with self.assertRaises(InvalidNumber) as caught:
                loaded(RING, ("h",), (("main", 0),), number)
            self.assertEqual(caught.exception.word, "gain")
        self.assertEqual(debt(RING, loaded(RING, ("h",), (("main", 0),), 200)), 201)


class MomentsTest(unittest.TestCase):
    def test_against_moments(self):
        gained = 0
        for table, movers in hidden_tables(65, 70):
            for moment in list(brute.reachable(table.book, 3, 30)):
                every = free_moments(table, movers, moment, 7)
                if every is None:
                    continue
                gains = {after: debt(table, after) - debt(table, moment) for after in every}
                most = load_at(table, movers, moment)
                if most is not None:
                    self.assertLessEqual(max(gains.values()), most)
                    self.assertGreaterEqual(debt(table, loaded(table, movers, moment, most)) - debt(table, moment), most)
                    self.assertIsNone(loaded(table, movers, moment, most + 1))
                    gained += most > 0
                for gain in (0, 1, 2, 9):
                    after = loaded(table, movers, moment, gain)
                    self.assertEqual(after is None, most is not None and gain > most)
                    if after is not None:
                        self.assertGreaterEqual(debt(table, after) - debt(table, moment), gain)
                        self.assertTrue(after in every or len(after) > 4)
        self.assertGreater(gained, 20)

    def test_small_moments(self):
        self.assertEqual(load_at(EXAMPLE, ("h",), (("main", 0),)), 1)
        self.assertEqual(load_at(EXAMPLE, (), (("main", 0),)), 0)
        self.assertEqual(load_at(EXAMPLE, ("h",), ()), 0)
        self.assertEqual(loaded(EXAMPLE, ("h",), (), 0), ())
        self.assertIsNone(loaded(EXAMPLE, ("h",), (), 1))
        self.assertEqual(loaded(EXAMPLE, ("h",), (("main", 0),), 1), (("x", 1), ("main", 1)))
        self.assertIsNone(load_at(RING, ("h",), (("main", 0),)))
        self.assertEqual(load_at(RING, (), (("main", 0),)), 0)
        # What is open below a course that can be left counts, too.
        table = court(book_of(read_courses("m: (x) [h b] a\nx: [k]")), {"a": ("a",), "b": ("b",), "h": (), "k": ()})
        moment = (("x", 1), ("m", 1))
        self.assertEqual(load_at(table, ("h",), moment), 1)
        self.assertEqual(loaded(table, ("h",), moment, 1), (("m", 2),))

    def test_books_at_the_limits(self):
        rng = random.Random(7)
        begun = time.time()
        for _ in range(4):
            book = full_book(rng, 0.5, 0.1)
            table = court(book, {deed: ("x",) if rng.random() < 0.2 else () for deed in book.deeds()})
            if isinstance(table, OwedTable):
                movers = hidden(table)
                self.assertTrue(check_loads(table, movers, loads(table, movers)))
                peak(table, movers, ("a", 0), 400)
                loading_steps(table)
        ring = Book((course("m", 20, (19,), *[do(n, "h", n + 1) for n in range(10)], call(10, "m", 11),
                            *[do(n, "a", n + 1) for n in range(10, 19)]),))
        table = court(ring, {"h": (), "a": ("a",)})
        self.assertIsInstance(table, OwedTable)
        moment = (("m", 0),) + (("m", 11),) * 50
        self.assertGreaterEqual(debt(table, loaded(table, ("h",), moment, 200)) - debt(table, moment), 200)
        self.assertIsNone(load_at(table, ("h",), moment))
        self.assertLess(time.time() - begun, 20)


class PlainTest(unittest.TestCase):
    def test_nothing_hidden(self):
        for book in (ORDER, NEST, one_course(1, (0,))):
            table = court(book, plain(book))
            self.assertEqual(hidden(table), ())
            self.assertTrue(check_loads(table, (), loads(table, ())))
        self.assertEqual(loads(court(NEST, plain(NEST)), ()), {("main", 0): 1, ("main", 1): 2, ("main", 2): 1,
                                                               ("main", 3): 0, ("main", 4): 0})
        self.assertEqual(call(0, "a", 1), (0, "call", "a", 1))


if __name__ == "__main__":
    unittest.main()
