"""[80]: tails of the deeds of runs at rest, and what they tell of the owed row."""

import random
import time
import unittest

import brute
from brute import ODD_VALUES
from samples import NEST, ORDER, call, do, one_course
from stillowed.books import Book
from stillowed.errors import InvalidNumber, Refused
from stillowed.lengths import plain
from stillowed.moments import all_moments
from stillowed.owed import OwedTable, court
from stillowed.tails import check_tail_pair, tail_need, tail_pair, told_apart
from stillowed.texts import book_of, read_courses


def table_of(text):
    book = book_of(read_courses(text))
    return court(book, plain(book))


# Each a is followed by a z at some later time, however many b are done between.
FAR = table_of("m: {b | a {b} z}")
# The same deed leads to unlike debts.
APART = table_of("m: s | z s | z z s")


def rest_runs(table, most):
    """All runs at rest of at most so many moves: (run, deeds, row owed behind it)."""
    book = table.book
    found = brute.runs(book, ((book.main(), 0),), most, True)
    if found is None:
        return None
    return [(run, deeds, table.owed(moment)) for run, moment, deeds in found if not run or run[-1][0] == "do"]


def tail(deeds, k):
    return deeds[max(0, len(deeds) - k):]


def is_not_enough(runs, k):
    found = {}
    return any(found.setdefault(tail(deeds, k), row) != row for _, deeds, row in runs)


class TailTest(unittest.TestCase):
    def test_small_books(self):
        # Two steps do the deed card, and only one of them leaves a stamp owed.
        self.assertIsNone(tail_need(court(ORDER, plain(ORDER)), 60))
        table = table_of("order: take (pay) send\npay: card [stamp]")
        self.assertEqual(tail_need(table, 60), 1)
        self.assertIsNone(tail_pair(table, 60, 1))
        self.assertIsNone(tail_pair(table, 60, 200))
        one, other = tail_pair(table, 60, 0)
        self.assertTrue(check_tail_pair(table, 0, one, other))
        self.assertIsNone(told_apart(table, 60))
        self.assertEqual(tail_need(table_of("m: {a}"), 60), 0)
        self.assertEqual(tail_need(table_of("m: a b c"), 60), 1)
        self.assertEqual(tail_need(table_of("m: a a a b"), 60), 3)
        self.assertEqual(tail_need(table_of("m: a {b} a c"), 60), 2)

    def test_no_number_is_enough(self):
        self.assertIsNone(tail_need(FAR, 60))
        self.assertIsNone(told_apart(FAR, 60))
        for k in (0, 1, 7, 200):
            one, other = tail_pair(FAR, 60, k)
            self.assertTrue(check_tail_pair(FAR, k, one, other))
        self.assertIsNone(tail_need(APART, 60))
        one, other = told_apart(APART, 60)
        self.assertTrue(check_tail_pair(APART, 10 ** 9, one, other))
        self.assertTrue(check_tail_pair(APART, 200, *tail_pair(APART, 60, 200)))

    def test_against_runs(self):
        seen = set()
        for book in brute.mixed_books(11, 700, courses=2, stages=4, deeds=2):
            if (book.main(), 0) not in brute.useful(book):
                continue
            table = court(book, plain(book))
            runs = rest_runs(table, 7) if isinstance(table, OwedTable) else None
            if runs is None:
                continue
            try:
                need = tail_need(table, 12)
            except Refused:
                continue
            seen.add(need)
            apart = told_apart(table, 12)
            if is_not_enough(runs, 7):
                self.assertIsNotNone(apart)
            if apart is not None:
                self.assertIsNone(need)
                self.assertTrue(check_tail_pair(table, 1000, *apart))
            for k in range(7):
                pair = tail_pair(table, 12, k)
                if is_not_enough(runs, k):
                    self.assertIsNotNone(pair)
                if pair is None:
                    self.assertTrue(need is not None and need <= k)
                else:
                    self.assertTrue(need is None or need > k)
                    self.check_pair(table, k, pair)
        self.assertLessEqual({None, 0, 1, 2}, seen)

    def check_pair(self, table, k, pair):
        book = table.book
        good = brute.useful(book)
        ends = []
        for run in pair:
            moment = ((book.main(), 0),)
            deeds = ()
            for move in run:
                self.assertIn(move, brute.let(book, good, moment))
                deeds += brute.deed_of(book, moment, move)
                moment = brute.behind(book, moment, move)
            self.assertTrue(not run or run[-1][0] == "do")
            ends.append((tail(deeds, k), table.owed(moment)))
        self.assertEqual(ends[0][0], ends[1][0])
        self.assertNotEqual(ends[0][1], ends[1][1])
        self.assertTrue(check_tail_pair(table, k, *pair))

    def test_pairs_checked(self):
        table = court(NEST, plain(NEST))
        one, other = (("do", 0),), (("do", 0), ("call", 2), ("do", 0))
        self.assertTrue(check_tail_pair(table, 1, one, other))
        self.assertTrue(check_tail_pair(table, 0, (), other))
        self.assertFalse(check_tail_pair(table, 2, one, other))
        self.assertFalse(check_tail_pair(table, 1, one, one))
        self.assertFalse(check_tail_pair(table, 1, (), other))
        # Runs that are not at rest, and such as are none.
        self.assertFalse(check_tail_pair(table, 1, one, (("do", 0), ("call", 2))))
        self.assertFalse(check_tail_pair(table, 0, one, (("do", 0), ("do", 0))))
        for value in ODD_VALUES:
            right = isinstance(value, tuple) and value == ()
            self.assertEqual(check_tail_pair(table, 0, value, other), right)
            self.assertEqual(check_tail_pair(table, 0, other, value), right)
            self.assertFalse(check_tail_pair(table, 0, (value,), other))

    def test_any_k(self):
        for value in ODD_VALUES + [201, 10 ** 30]:
            if isinstance(value, bool) or not isinstance(value, int) or not 0 <= value <= 200:
                for most in (0, 60):
                    with self.assertRaises(InvalidNumber) as caught:
                        tail_pair(FAR, most, value)
                    self.assertEqual(caught.exception.word, "k")

        for value in ODD_VALUES:
            if isinstance(value, bool) or not isinstance(value, int) or value < 0:
                self.assertIs(check_tail_pair(FAR, value, (("do", 0),), ()), False)

    def test_most(self):
        table = table_of("order: take (pay) send\npay: card [stamp]")
        many = len(all_moments(table.book, 60))
        self.assertEqual(tail_need(table, many), 1)
        self.assertIsNone(told_apart(table, many))
        self.assertIsNone(tail_pair(table, many, 1))
        for function, more in ((tail_need, ()), (told_apart, ()), (tail_pair, (1,))):
            for most in (many - 1, 0):
                with self.assertRaises(Refused) as caught:
                    function(table, most, *more)
                self.assertEqual(caught.exception.word, "wide")
            with self.assertRaises(Refused):
                function(court(NEST, plain(NEST)), 60, *more)
        self.assertTrue(check_tail_pair(court(NEST, plain(NEST)), 1, (("do", 0),), (("do", 0), ("call", 2), ("do", 0))))

    def test_long_tails(self):
        # After many a alone nothing tells how far the run is.
        many = 19
        steps = [do(n, "a", n + 1) for n in range(many)]
        line = one_course(many + 1, (many,), *steps)
        table = court(line, plain(line))
        self.assertEqual(tail_need(table, 60), many)
        self.assertTrue(check_tail_pair(table, many - 1, *tail_pair(table, 60, many - 1)))
        self.assertIsNone(tail_pair(table, 60, many))

    def test_60_moments(self):
        begun = time.time()
        rng = random.Random(9)
        # The stages from 10 on owe z, those before y and z; from these only y leads on to the others.
        steps = set()
        while len(steps) < 30:
            number = rng.randrange(19)
            steps.add(do(number, rng.choice("ab"), rng.randrange(10 if number < 10 else 19)))
        steps |= {do(0, "y", 10)} | {do(n, "y", n + 9) for n in range(1, 10)} | {do(n, "z", 19) for n in range(10, 19)}
        course_steps = tuple(sorted(steps))
        book = Book((("m", 20, (19,), (call(0, "x", 10),) + course_steps), ("x", 20, (19,), course_steps)))
        table = court(book, plain(book))
        self.assertIsInstance(table, OwedTable)
        self.assertGreater(len(all_moments(book, 60)), 15)
        for k in (0, 3, 200):
            pair = tail_pair(table, 60, k)
            if pair is not None:
                self.assertTrue(check_tail_pair(table, k, *pair))
        self.assertLess(time.time() - begun, 20)


if __name__ == "__main__":
    unittest.main()
