"""[77], [78], [79]: rows that strangers do."""

import random
import time
import unittest

import brute
import seeing
import tables
from brute import quick_within
from samples import DEAD, NEST, ORDER, TORN, call, course, do, full_book, one_course, tall
from stillowed.books import Book
from stillowed.errors import Refused
from stillowed.lengths import plain
from stillowed.lists import lists
from stillowed.orders import check_no, next_deeds, rests, run_by, spans, wrong_at
from stillowed.owed import OwedTable, court
from stillowed.texts import book_of, read_courses

SIZE = 5


def all_runs(book, moment, size, depth=7, most=4000):
    """A dict from rows of at most so many deeds to (the moments to which they lead); None if there are too many."""
    good = brute.useful(book)
    found = {(moment, ())}
    waiting = [(moment, ())]
    while waiting:
        here, row = waiting.pop()
        for move in brute.let(book, good, here):
            after = (brute.behind(book, here, move), row + brute.deed_of(book, here, move))
            if after not in found and len(after[0]) <= depth and len(after[1]) <= size:
                found.add(after)
                waiting.append(after)
        if len(found) > most:
            return None
    rows = {}
    for here, row in found:
        rows.setdefault(row, set()).add(here)
    return rows


def moment_endings(found, moment, size):
    """All endings of at most so many deeds of a moment, out of those of its stages."""
    rows = {()}
    for stage in moment:
        rows = {one + other for one in rows for other in found[stage] if len(one) + len(other) <= size}
    return rows


def closed_spans(book, row, triples):
    """Whether some triples are closed, by the words of the document."""
    have = set(triples)
    for stage in book.stages():
        for i in range(len(row) + 1):
            if brute.is_end(book, stage) and (stage, i, i) not in have:
                return False
        for k in brute.leaving(book, stage):
            step = book.steps(stage[0])[k]
            parts = brute.parts(book, stage, k)
            for one, i, h in have:
                if one != parts[0]:
                    continue
                if step[1] == "do":
                    if i > 0 and row[i - 1] == step[2] and (stage, i - 1, h) not in have:
                        return False
                elif any(other == parts[1] and begin == h and (stage, i, j) not in have for other, begin, j in have):
                    return False
    return True


def quiet_courses(rank):
    """Courses without deeds, the first one with this rank, an odd number."""
    names = "abcdef"
    made = []
    while rank > 29:
        # Each call of q takes two moves, each one of the next course an even number.
        few = (rank - 1) // 2 % 5
        many = 5 + few
        calls = [call(n, names[len(made) + 1] if n < 5 else "q", n + 1) for n in range(many)]
        made.append(course(names[len(made)], many + 1, (many,), *calls))
        rank = (rank - 1 - 2 * few) // 5 - 1
    many = rank // 2
    made.append(course(names[len(made)], many + 1, (many,), *[call(n, "q", n + 1) for n in range(many)]))
    return tuple(made) + (course("q", 1, (0,)),)


class DoneTest(unittest.TestCase):
    def test_small_books(self):
        start = (("order", 0),)
        self.assertIsNone(wrong_at(ORDER, start, ("take", "card", "stamp", "send")))
        self.assertEqual(wrong_at(ORDER, start, ("take", "card", "stamp")), 3)
        self.assertEqual(wrong_at(ORDER, start, ("take", "stamp", "card")), 1)
        self.assertEqual(wrong_at(ORDER, start, ()), 0)
        self.assertEqual(next_deeds(ORDER, start, ("take", "card")), ("send", "stamp"))
        self.assertEqual(next_deeds(ORDER, start, ("card",)), ())
        self.assertEqual(next_deeds(ORDER, start, ("take",)), ("card",))
        self.assertEqual(next_deeds(ORDER, start, ("take", "card", "send")), ())
        self.assertEqual(run_by(ORDER, (("pay", 0), ("order", 2)), ("card", "send")),
                         (("do", 0), ("leave",), ("do", 2), ("leave",)))
        self.assertIsNone(run_by(ORDER, start, ("take", "card")))
        self.assertIsNone(wrong_at(ORDER, (), ()))
        self.assertEqual(wrong_at(ORDER, (), ("send",)), 0)
        self.assertEqual((next_deeds(ORDER, (), ()), run_by(ORDER, (), ()), run_by(ORDER, (), ("send",))), ((), (), None))
        self.assertEqual(next_deeds(TORN, (("main", 0),), ()), ("card", "cash"))

    def test_stages_that_are_not_useful(self):
        # x cannot be ended, so its deeds cannot be done.
        book = Book((course("m", 3, (2,), do(0, "a", 2), call(0, "x", 2), do(0, "b", 1)), course("x", 2, (), do(0, "c", 1))))
        start = (("m", 0),)
        self.assertEqual(next_deeds(book, start, ()), ("a",))
        self.assertEqual(wrong_at(book, start, ("c",)), 0)
        self.assertEqual(wrong_at(book, start, ("b",)), 0)
        self.assertIsNone(run_by(book, start, ("b",)))

    def test_against_all_runs(self):
        rng = random.Random(1)
        counts = [0, 0]
        for book in brute.mixed_books(71, 200, deeds=3):
            reached = [moment for moment in brute.reachable(book, 3, 40)]
            for moment in rng.sample(reached, min(2, len(reached))):
                found = all_runs(book, moment, SIZE)
                if found is None:
                    continue
                rows = set(found) | {tuple(rng.choice("abc") for _ in range(rng.randint(0, SIZE))) for _ in range(5)}
                for row in rng.sample(sorted(rows), min(8, len(rows))):
                    ends = () in found.get(row, ())
                    counts[ends] += 1
                    answer = wrong_at(book, moment, row)
                    if ends:
                        self.assertIsNone(answer)
                    else:
                        done = max(many for many in range(len(row) + 1) if row[:many] in found)
                        self.assertTrue(answer == done or answer is None or answer > done)
                        self.check_run(book, moment, row, answer is None)
                    if len(row) < SIZE:
                        self.assertLessEqual({one[-1] for one in found if one[:-1] == row and one},
                                             set(next_deeds(book, moment, row)))
                    if ends:
                        self.check_run(book, moment, row, True)
        self.assertGreater(min(counts), 60)

    def check_run(self, book, moment, row, right):
        run = run_by(book, moment, row)
        self.assertEqual(run is not None, right)
        if run is None:
            return
        deeds = ()
        good = brute.useful(book)
        for move in run:
            self.assertIn(move, brute.let(book, good, moment))
            deeds += brute.deed_of(book, moment, move)
            moment = brute.behind(book, moment, move)
        self.assertEqual((moment, deeds), ((), row))

    def test_fewest_moves(self):
        for book in brute.mixed_books(73, 160, deeds=2):
            for start in list(brute.reachable(book, 3, 12)):
                found = brute.runs(book, start, 6, True)
                if found is None:
                    continue
                least = {}
                for run, moment, deeds in found:
                    if moment == ():
                        least[deeds] = min(least.get(deeds, 99), len(run))
                for row, many in least.items():
                    self.assertEqual(len(run_by(book, start, row)), many)

    def test_fewest_moves_of_all_stages_together(self):
        # Here the a can be done in x by few moves, or in m behind it by many; the sum of both counts.
        book = Book((course("m", 6, (5,), call(0, "x", 1), call(1, "q", 2), call(2, "q", 3), do(3, "a", 5), do(1, "b", 4),
                            call(4, "q", 5), call(1, "q", 5)),
                     course("x", 3, (2,), do(0, "a", 2), call(0, "q", 2), call(0, "q", 1), call(1, "q", 2)),
                     course("q", 1, (0,))))
        for moment in ((("m", 0),), (("x", 0), ("m", 1)), (("x", 1), ("m", 1))):
            found = brute.runs(book, moment, 11, True)
            for row in ((), ("a",), ("b",), ("a", "a"), ("a", "b")):
                many = [len(run) for run, after, deeds in found if after == () and deeds == row]
                self.assertEqual(len(run_by(book, moment, row) or ()), min(many, default=0), (moment, row))

    def test_rows_of_24_and_25_deeds(self):
        book = one_course(2, (1,), do(0, "a", 0), do(0, "b", 1))
        start = (("main", 0),)
        row = ("a",) * 23 + ("b",)
        self.assertIsNone(wrong_at(book, start, row))
        self.assertEqual(len(run_by(book, start, row)), 25)
        self.assertEqual(next_deeds(book, start, ("a",) * 24), ("a", "b"))
        self.assertEqual(len(spans(book, row)), 25 + 24)
        self.assertTrue(check_no(book, start, row[:23], spans(book, row[:23])))
        table = court(book, plain(book))
        self.assertEqual(rests(table, start, ("a",) * 24), (("b",),))
        long_row = ("a",) + row
        for function, told in ((wrong_at, (book, start, long_row)), (next_deeds, (book, start, long_row)),
                               (run_by, (book, start, long_row)), (spans, (book, long_row)),
                               (check_no, (book, start, long_row, ())), (rests, (table, start, long_row))):
            with self.assertRaises(Refused) as caught:
                function(*told)
            self.assertEqual(caught.exception.word, "long")

    def test_runs_of_20000_moves(self):
        book = Book((course("m", 4, (2, 3), call(0, "a", 1), do(1, "z", 2), do(2, "z", 3)),) + quiet_courses(19997))
        start = (("m", 0),)
        self.assertEqual(len(run_by(book, start, ("z",))), 20000)
        with self.assertRaises(Refused) as caught:
            run_by(book, start, ("z", "z"))
        self.assertEqual(caught.exception.word, "long")
        self.assertIsNone(run_by(book, start, ("z", "z", "z")))
        self.assertIsNone(wrong_at(book, start, ("z", "z")))
        self.assertEqual(run_by(book, (("m", 1),), ("z", "z")), (("do", 1), ("do", 2), ("leave",)))


class SpansTest(unittest.TestCase):
    def test_small_book(self):
        row = ("a", "c", "b")
        self.assertEqual(spans(NEST, row), (
            (("main", 0), 0, 3), (("main", 0), 1, 2), (("main", 1), 1, 3), (("main", 2), 2, 3),
            (("main", 3), 0, 0), (("main", 3), 1, 1), (("main", 3), 2, 2), (("main", 3), 3, 3),
            (("main", 4), 0, 0), (("main", 4), 1, 1), (("main", 4), 2, 2), (("main", 4), 3, 3)))
        self.assertEqual(spans(DEAD, ("a",)), ((("main", 1), 0, 1), (("main", 2), 0, 0), (("main", 2), 1, 1)))

    def test_against_endings(self):
        rng = random.Random(3)
        for book in brute.mixed_books(75, 120):
            found = brute.endings(book, 4)
            row = tuple(rng.choice("abc") for _ in range(rng.randint(0, 4)))
            right = tuple((stage, i, j) for stage in brute.all_stages(book) for i in range(len(row) + 1)
                          for j in range(i, len(row) + 1) if row[i:j] in found[stage])
            self.assertEqual(spans(book, row), right)
            self.assertTrue(closed_spans(book, row, right))

    def test_closed_and_changed_triples(self):
        rng = random.Random(4)
        seen = set()
        for book in brute.mixed_books(77, 140):
            reached = sorted(brute.reachable(book, 3, 30))
            if not reached:
                continue
            found = brute.endings(book, 4)
            for _ in range(4):
                moment = rng.choice(reached)
                row = tuple(rng.choice("abc") for _ in range(rng.randint(0, 4)))
                every = spans(book, row)
                is_one = row in moment_endings(found, moment, 4)
                self.assertIs(check_no(book, moment, row, every), not is_one)
                some = [one for one in every if rng.random() < 0.9]
                for _ in range(rng.randint(0, 2)):
                    i = rng.randint(0, len(row))
                    some.append((rng.choice(book.stages()), i, rng.randint(i, len(row))))
                rng.shuffle(some)
                answer = check_no(book, moment, row, tuple(some))
                closed = closed_spans(book, row, some)
                places = {0}
                for stage in moment:
                    places = {j for one, i, j in some if one == stage and i in places}
                self.assertIs(answer, closed and len(row) not in places)
                seen.add((answer, closed))
                self.assertFalse(answer and is_one)
        self.assertEqual(seen, {(True, True), (False, True), (False, False)})


class RestsTest(unittest.TestCase):
    def test_small_books(self):
        table = court(book_of(read_courses("main: d | a b d | a c d")), plain(book_of(read_courses(
            "main: d | a b d | a c d"))))
        self.assertEqual(rests(table, (("main", 0),), ("a",)), (("b", "d"), ("c", "d")))
        self.assertEqual(rests(table, (("main", 0),), ("d",)), ((),))
        self.assertEqual(rests(table, (("main", 0),), ("b",)), ())
        self.assertEqual(rests(table, (("main", 0),), ()), (("d",),))
        self.assertEqual((rests(table, (), ()), rests(table, (), ("d",))), (((),), ()))

    def test_against_endings(self):
        rng = random.Random(5)
        several = 0
        every_table = tables.clear_tables(79, 100)
        every_table += [court(book, plain(book)) for book in seeing.blurred_books(80, 200)]
        for table in every_table:
            book = table.book
            if not isinstance(table, OwedTable) or table.view != plain(book):
                continue
            found = brute.endings(book, 7)
            reached = sorted(brute.reachable(book, 3, 30))
            for _ in range(4):
                moment = rng.choice(reached) if rng.random() < 0.5 else ((book.main(), 0),)
                every = moment_endings(found, moment, 7)
                row = tuple(rng.choice("abcz") for _ in range(rng.randint(0, 3)))
                if every and rng.random() < 0.7:
                    row = rng.choice(sorted(every))[:rng.randint(0, 3)]
                rows = [one[len(row):] for one in every if one[:len(row)] == row]
                least = [one for one in rows if not any(one != other and quick_within(other, one) for other in rows)]
                try:
                    answer = rests(table, moment, row)
                except Refused as error:
                    self.assertEqual(error.word, "wide")
                    continue
                short = tuple(one for one in answer if len(one) + len(row) <= 7)
                self.assertEqual(short, brute.in_order([one for one in least if one in short or not any(
                    quick_within(other, one) for other in answer)]))
                self.assertTrue(all(any(quick_within(other, one) for other in answer) for one in rows))
                several += len(answer) > 1
                owed = table.owed(moment)
                for many in range(min(len(owed), 24) + 1):
                    try:
                        self.assertEqual(rests(table, moment, owed[:many]), (owed[many:],))
                    except Refused:
                        pass
        self.assertGreater(several, 5)

    def widened(self, firsts, seconds):
        """main: z | (p) z | (q) z, where p and q are empty or a and one of so many unlike pairs of deeds."""
        words = "bcdefgh"
        pairs = [(one, other) for one in range(7) for other in range(7)]
        courses = [course("main", 3, (2,), do(0, "z", 2), call(0, "p", 1), call(0, "q", 1), do(1, "z", 2))]
        for name, told in (("p", pairs[:firsts]), ("q", pairs[firsts:firsts + seconds])):
            steps = [do(1 + at, words[at], 8) for at in range(7)]
            for at, (one, other) in enumerate(told):
                steps += [do(0, "a", 9 + at), do(9 + at, words[one], 1 + other)]
            courses.append(course(name, 20, (0, 8), *steps))
        book = Book(tuple(courses))
        return court(book, plain(book))

    def test_20_rests_and_more(self):
        for firsts, seconds in ((11, 9), (10, 10), (11, 10)):
            table = self.widened(firsts, seconds)
            self.assertIsInstance(table, OwedTable)
            starts = (("main", 0),), (("p", 0), ("main", 1)), (("main", 1),), ()
            if firsts + seconds == 20:
                found = rests(table, starts[0], ("a",))
                self.assertEqual(len(found), 20)
                self.assertEqual(found, tuple(sorted(found)))
                self.assertEqual(len(rests(table, starts[1], ("a",))), firsts)
                self.assertEqual(rests(table, starts[0], ("a", "b"))[0], ("b", "z"))
            else:
                # It is enough that one stage has too many, with what is left of the row; here the main one.
                for start in starts:
                    for row in (("a",), ("z", "a"), ("b", "c", "a")):
                        with self.assertRaises(Refused) as caught:
                            rests(table, start, row)
                        self.assertEqual(caught.exception.word, "wide")
                self.assertEqual(rests(table, starts[0], ("z",)), ((),))
                self.assertEqual(rests(table, starts[0], ()), (("z",),))

    def test_more_than_20_of_a_moment_alone(self):
        # p stands before q, and each of them can be left empty: 11 and 10 rests, but no stage has more than 20.
        table = self.widened(11, 10)
        courses = (course("main", 2, (1,), call(0, "p", 0), do(0, "z", 1)),) + table.book.courses[1:]
        book = Book((course("main", 4, (3,), call(0, "p", 1), call(1, "q", 2), do(2, "z", 3)),) + courses[1:])
        moment = (("p", 0), ("main", 1))
        joined = court(book, plain(book))
        self.assertIsInstance(joined, OwedTable)
        with self.assertRaises(Refused):
            rests(joined, moment, ("a",))
        few = self.widened(11, 9).book.courses
        book = Book((book.courses[0],) + few[1:])
        self.assertEqual(len(rests(court(book, plain(book)), moment, ("a",))), 20)

    def test_books_at_the_limits(self):
        rng = random.Random(6)
        begun = time.time()
        for _ in range(5):
            book = full_book(rng, 0.4, 0.05)
            words = book.deeds()
            row = tuple(rng.choice(words) for _ in range(24))
            start = (("a", 0),)
            wrong_at(book, start, row)
            run_by(book, start, row)
            self.assertEqual(check_no(book, start, row, spans(book, row)), wrong_at(book, start, row) is not None)
            table = court(book, plain(book))
            if isinstance(table, OwedTable):
                try:
                    rests(table, start, row)
                except Refused:
                    pass
        deep = tall((3, 3, 3, 3, 3, 3, 3, 3))
        table = court(deep, plain(deep))
        self.assertEqual(len(rests(table, (("a", 0),), ("x",) * 24)[0]), 256 - 24)
        self.assertEqual(wrong_at(deep, (("a", 0),), ("x",) * 24), 24)
        self.assertLess(time.time() - begun, 20)
        self.assertEqual(len(lists(deep, {"x": ()})), 24)


if __name__ == "__main__":
    unittest.main()
