"""[27]: tight steps and tight runs."""

import random
import time
import unittest

import brute
from samples import NEST, ORDER, call, chain_of_rank, course, do, full_book, one_course
from sound import is_sound_table, joined
from stillowed.books import Book
from stillowed.errors import NoEnding, Refused
from stillowed.lengths import plain
from stillowed.owed import OwedTable, court, tight, tight_run
from tables import clear_tables


def steps_of_run(book, moment, run):
    """The pairs (course, k) of a run's steps, its deeds and the moment behind it; each move must be one."""
    steps, deeds = [], ()
    for move in run:
        assert move in brute.raw_moves(book, moment)
        if move != ("leave",):
            steps.append((moment[0][0], move[1]))
        deeds += brute.deed_of(book, moment, move)
        moment = brute.behind(book, moment, move)
    return steps, deeds, moment


def row_by(view, deeds):
    return tuple(shown for deed in deeds for shown in view[deed])


class TightTest(unittest.TestCase):
    def test_the_books_of_the_document(self):
        table = court(NEST, plain(NEST))
        self.assertEqual(tight(NEST, table), (("main", 1), ("main", 2), ("main", 3)))
        self.assertEqual(tight_run(NEST, table, (("main", 2),)), (("do", 3), ("leave",)))
        table = court(ORDER, plain(ORDER))
        self.assertEqual(tight(ORDER, table), (("order", 0), ("order", 1), ("order", 2), ("pay", 0), ("pay", 2)))
        self.assertEqual(tight_run(ORDER, table, (("pay", 0), ("order", 2))),
                         (("do", 0), ("leave",), ("do", 2), ("leave",)))
        self.assertEqual(tight_run(ORDER, table, ()), ())

    def test_steps_to_stages_without_rows_are_not_tight(self):
        book = one_course(4, (1, 3), do(0, "a", 1), do(0, "a", 2), do(2, "b", 2), do(1, "b", 3))
        table = court(book, plain(book))
        self.assertEqual(sorted(table.rows), [("main", 0), ("main", 1), ("main", 3)])
        self.assertEqual(tight(book, table), (("main", 0),))

    def test_random_tables(self):
        calls = 0
        for table in clear_tables(271, 120):
            book = table.book
            wanted = [(stage[0], k) for stage in table.rows for k in brute.leaving(book, stage)
                      if all(part in table.rows for part in brute.parts(book, stage, k))
                      and joined(book, table.view, table.rows, stage, k) == table.rows[stage]]
            self.assertEqual(tight(book, table), tuple(sorted(wanted)))
            for stage in table.rows:
                moment = (stage, (book.main(), 0), stage)
                steps, deeds, last = steps_of_run(book, moment, tight_run(book, table, moment))
                self.assertEqual((last, row_by(table.view, deeds)), ((), table.owed(moment)))
                self.assertTrue(set(steps) <= set(wanted))
                calls += len(steps)
        self.assertGreater(calls, 500)

    def test_the_deeds_of_moves_tell_whether_all_steps_are_tight(self):
        seen = [0, 0]
        for table in clear_tables(272, 60):
            names = set(tight(table.book, table))
            for stage in list(table.rows)[:4]:
                for run, deeds in (brute.finishes(table.book, stage, 5) or [])[:200]:
                    steps, _, _ = steps_of_run(table.book, (stage,), run)
                    row = row_by(table.view, deeds)
                    self.assertEqual(set(steps) <= names, row == table.rows[stage])
                    self.assertTrue(row == table.rows[stage] or len(row) > len(table.rows[stage]))
                    seen[row == table.rows[stage]] += 1
        self.assertGreater(min(seen), 50)

    def test_rings(self):
        # A hidden deed leads back to the same stage: the step is tight, and the run does not follow it.
        book = one_course(3, (2,), do(0, "h", 0), do(0, "a", 1), call(1, "main", 1), do(1, "b", 2))
        table = court(book, {"h": (), "a": (), "b": ()})
        self.assertEqual(tight(book, table), (("main", 0), ("main", 1), ("main", 2), ("main", 3)))
        self.assertEqual(tight_run(book, table, (("main", 0),)), (("do", 1), ("do", 3), ("leave",)))

    def test_the_ways_of_the_table_are_followed(self):
        book = one_course(4, (3,), do(0, "a", 3), do(0, "a", 1), do(1, "h", 2), do(2, "h", 3))
        view = {"a": ("a",), "h": ()}
        table = court(book, view)
        self.assertEqual(tight_run(book, table, (("main", 0),)), (("do", 0), ("leave",)))
        ways = {**table.ways, ("main", 0): ("step", 1)}
        other = OwedTable(book, view, table.rows, ways, {("main", k): 3 - k for k in range(4)})
        self.assertTrue(is_sound_table(other))
        self.assertEqual(tight_run(book, other, (("main", 0),)), (("do", 1), ("do", 2), ("do", 3), ("leave",)))
        # Stages that no run reaches may be keys, too.
        more = Book(book.courses + (course("z", 2, (1,), do(0, "a", 1)),))
        wide = OwedTable(more, view, {**table.rows, ("z", 0): ("a",), ("z", 1): ()},
                         {**table.ways, ("z", 0): ("step", 0), ("z", 1): ("end",)}, {**table.ranks, ("z", 0): 1, ("z", 1): 0})
        self.assertTrue(is_sound_table(wide))
        self.assertIn(("z", 0), tight(more, wide))
        self.assertEqual(tight_run(more, wide, (("z", 0), ("main", 3))), (("do", 0), ("leave",), ("leave",)))

    def test_errors(self):
        table = court(NEST, plain(NEST))
        for moment, stage in (((("main", 3), ("main", 9), ("x", 0)), ("main", 9)),
                              ((("main", 3),) * 30000 + (("main", 7),), ("main", 7))):
            with self.assertRaises(NoEnding) as caught:
                tight_run(NEST, table, moment)
            self.assertEqual(caught.exception.stage, stage)
        self.assertEqual(len(tight_run(NEST, table, (("main", 3),) * 20000)), 20000)
        with self.assertRaises(Refused) as caught:
            tight_run(NEST, table, (("main", 3),) * 20001)
        self.assertEqual(caught.exception.word, "long")

    def test_runs_of_20_000_moves_and_beyond(self):
        for rank in (19999, 20000, 20001, 60000):
            book = chain_of_rank(rank)
            table = court(book, {"x": ()})
            if rank <= 20000:
                run = tight_run(book, table, ((book.main(), 0),))
                self.assertEqual(len(run), rank)
                self.assertEqual(run[-1], ("leave",))
            else:
                with self.assertRaises(Refused) as caught:
                    tight_run(book, table, ((book.main(), 0),))
                self.assertEqual(caught.exception.word, "long")

    def test_at_the_limits(self):
        began = time.time()
        rng = random.Random(273)
        for _ in range(20):
            book = full_book(rng)
            table = court(book, {deed: () for deed in book.deeds()})
            self.assertTrue(is_sound_table(table))
            self.assertTrue({(stage[0], way[1]) for stage, way in table.ways.items() if way != ("end",)}
                            <= set(tight(book, table)))
            tight_run(book, table, tuple(table.rows))
        self.assertLess(time.time() - began, 10)


if __name__ == "__main__":
    unittest.main()
