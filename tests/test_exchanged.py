"""[85] to [87]: what one step does, the greatest book of a table, and books exchanged."""

import random
import time
import unittest

import brute
from samples import NEST, ORDER, TORN, call, course, do, full_book, one_course, tall
from sound import is_sound_table
from stillowed.books import Book
from stillowed.changes import (Change, bar_out, barred, brings, change_to, effect, greatest, may_end, may_put_in, put_in,
                               with_ends, with_steps)
from stillowed.errors import InvalidMove, Refused
from stillowed.lengths import plain
from stillowed.met import met
from stillowed.owed import OwedTable, TwoEndings, court
from stillowed.rows import within
from stillowed.single import owed_at
from tables import clear_tables, looped_tables, wider_tables

WRONG_PAIRS = [("x", do(1, "b", 0)), ("main", do(5, "b", 0)), ("main", do(1, "b", 5)), ("main", do(1, "B", 0)),
               ("main", call(1, "x", 0)), ("main", (1, "go", "b", 0)), ("main", None), (None, do(1, "b", 0)), (["main"], ()),
               ("main", do(True, "b", 0)), ("main", [1, "do", "b", 0]), ("main", (1, "do", ["b"], 0))]


def attributes(change):
    return (change.word, change.table, change.two, change.changed, change.fresh, change.gone)


def every_step(book):
    """All pairs (course, step) by deeds of the book and calls of its courses."""
    for name, many, _, _ in book.courses:
        for number in range(many):
            for onto in range(many):
                for deed in book.deeds():
                    yield (name, (number, "do", deed, onto))
                for other in book.names():
                    yield (name, (number, "call", other, onto))


class EffectTest(unittest.TestCase):
    def test_small_books(self):
        table = court(NEST, plain(NEST))
        self.assertEqual(brings(table, "main", do(0, "a", 1)), ("a", "c", "b"))
        self.assertEqual(brings(table, "main", call(3, "main", 1)), ("c", "c", "b"))
        self.assertEqual(brings(table, "main", do(4, "b", 3)), ("b",))
        for step, word in ((do(0, "a", 1), "within"), (do(0, "a", 3), "apart"), (do(1, "b", 3), "shorter"),
                           (call(1, "main", 4), "shorter"), (do(2, "b", 0), "within"), (do(2, "a", 0), "apart"),
                           (call(0, "main", 0), "within"), (do(1, "c", 2), "within"), (do(1, "a", 4), "apart")):
            self.assertEqual(effect(table, "main", step), word, step)
        # In the rows of a view.
        table = court(ORDER, {"take": (), "card": ("c", "c"), "stamp": ("s",), "send": (), "new": ("c",)})
        self.assertEqual(brings(table, "pay", do(0, "new", 1)), ("c",))
        self.assertEqual(effect(table, "pay", do(0, "new", 1)), "shorter")
        self.assertEqual(effect(table, "pay", do(0, "new", 2)), "apart")
        self.assertEqual(effect(table, "pay", do(0, "new", 0)), "within")

    def test_steps_that_are_not_inner(self):
        # The stage 2 is not met, and 3 is not useful.
        book = one_course(4, (1,), do(0, "a", 1), do(2, "a", 1), do(0, "a", 3))
        table = court(book, plain(book))
        self.assertEqual(sorted(table.rows), [("main", 0), ("main", 1)])
        self.assertEqual(brings(table, "main", do(2, "a", 1)), ("a",))
        for step in (do(0, "a", 2), do(0, "a", 3), do(2, "a", 3), call(1, "main", 2)):
            self.assertIsNone(brings(table, "main", step))
            self.assertIsNone(effect(table, "main", step))
        self.assertIsNone(effect(table, "main", do(2, "a", 1)))
        # A called course that no run enters.
        book = Book(book.courses + (course("z", 1, (0,)),))
        table = court(book, plain(book))
        self.assertIsNone(brings(table, "main", call(0, "z", 1)))
        self.assertIsNone(effect(table, "main", call(0, "z", 1)))

    def test_errors(self):
        table = court(NEST, {"a": ("a",), "b": ("b",), "c": ("c",), "more": ()})
        for function in (brings, effect, put_in):
            for course_, step in WRONG_PAIRS + [("main", do(1, "d", 0)), ("main", do(1, "zz", 2))]:
                with self.assertRaises(InvalidMove) as caught:
                    function(table, course_, step)
                self.assertEqual(caught.exception.at, 0)
            for value in brute.ODD_VALUES:
                with self.assertRaises(InvalidMove):
                    function(table, "main", value)
                if value != "main":
                    with self.assertRaises(InvalidMove):
                        function(table, value, do(1, "b", 0))
        self.assertEqual(brings(table, "main", do(2, "more", 3)), ())
        # `put_in` refuses steps that are there, and a thirteenth deed.
        with self.assertRaises(InvalidMove) as caught:
            put_in(table, "main", do(0, "a", 1))
        self.assertEqual(caught.exception.at, 0)
        book = one_course(2, (1,), *[do(0, letter, 1) for letter in "abcdefghijkl"])
        wide = court(book, {**{letter: () for letter in "abcdefghijkl"}, "m": ()})
        self.assertEqual(effect(wide, "main", do(0, "m", 1)), "within")
        with self.assertRaises(InvalidMove):
            put_in(wide, "main", do(0, "m", 1))
        self.assertEqual(put_in(wide, "main", do(0, "a", 0)).word, "kept")

    def test_what_each_word_means(self):
        rng = random.Random(851)
        seen = {"within": 0, "shorter": 0, "apart": 0}
        turned = 0
        for table in clear_tables(851, 40) + looped_tables(851, 20) + wider_tables(851, 25):
            book = table.book
            steps = list(every_step(book))
            for name, step in rng.sample(steps, min(12, len(steps))):
                if step in book.steps(name):
                    continue
                stage, word = (name, step[0]), effect(table, name, step)
                inner = stage in table.rows and all(part in table.rows for part in (
                    ((name, step[3]),) if step[1] == "do" else ((step[2], 0), (name, step[3]))))
                self.assertEqual(word is not None, inner)
                if not inner:
                    continue
                seen[word] += 1
                other = with_steps(book, ((name, step),))
                self.assertEqual(list(met(other)), list(met(book)))
                after = court(other, table.view)
                change = put_in(table, name, step)
                if word == "within":
                    self.assertEqual((after.rows, change.word), (table.rows, "kept"))
                elif word == "apart":
                    self.assertIsInstance(after, TwoEndings)
                    self.assertEqual(change.word, "broken")
                    self.assertIsNone(owed_at(other, table.view, (stage,)))
                elif isinstance(after, OwedTable):
                    turned += 1
                    self.assertEqual((after.rows[stage], change.word), (brings(table, name, step), "turned"))
                    self.assertTrue(all(within(after.rows[key], table.rows[key]) for key in table.rows))
        self.assertGreater(min(seen.values()), 40)
        self.assertGreater(turned, 20)


def ends_book(one, other, steps):
    """Two courses of so many stages, at all of which they may end and all of which are met, with so many steps."""
    made = [[call(0, "x", 0)] + [do(n, "a", n + 1) for n in range(one - 1)], [do(n, "a", n + 1) for n in range(other - 1)]]
    spare = (do(n, "a", onto) for n in range(one) for onto in range(one))
    while len(made[0]) + len(made[1]) < steps:
        step = next(spare)
        if step not in made[0]:
            made[0].append(step)
    return Book((course("main", one, tuple(range(one)), *made[0]), course("x", other, tuple(range(other)), *made[1])))


class GreatestTest(unittest.TestCase):
    def test_small_books(self):
        table = court(TORN, {"card": (), "cash": (), "stamp": ("s",)})
        self.assertIsInstance(table, OwedTable)
        book = one_course(2, (1,), do(0, "a", 1))
        table = court(book, plain(book))
        self.assertEqual(may_put_in(table), tuple(sorted([
            ("main", do(0, "a", 0)), ("main", call(0, "main", 0)), ("main", call(0, "main", 1)), ("main", do(1, "a", 0)),
            ("main", do(1, "a", 1)), ("main", call(1, "main", 0)), ("main", call(1, "main", 1))])))
        self.assertEqual(may_end(table), ())
        self.assertEqual(greatest(table).steps("main"), (do(0, "a", 1),) + tuple(step for _, step in may_put_in(table)))
        hidden = court(one_course(3, (2,), do(0, "h", 1), do(1, "h", 2)), {"h": ()})
        self.assertEqual(may_end(hidden), (("main", 0), ("main", 1)))
        self.assertEqual(greatest(hidden).ends("main"), (0, 1, 2))
        self.assertEqual(len(greatest(hidden).steps("main")), 18)

    def test_random_tables(self):
        put = 0
        for table in clear_tables(861, 25) + looped_tables(861, 10) + wider_tables(861, 10):
            book = table.book
            wanted = sorted((name, step) for name, step in every_step(book)
                            if step not in book.steps(name) and effect(table, name, step) == "within")
            if len(wanted) > 1000:
                self.assertRaises(Refused, may_put_in, table)
                continue
            self.assertEqual(may_put_in(table), tuple(wanted))
            self.assertEqual(may_end(table), tuple(stage for stage in sorted(table.rows)
                                                   if table.rows[stage] == () and not brute.is_end(book, stage)))
            most = greatest(table)
            self.assertEqual(most, with_ends(with_steps(book, may_put_in(table)), may_end(table)))
            after = court(most, table.view)
            self.assertIsInstance(after, OwedTable)
            self.assertEqual(after.rows, table.rows)
            self.assertEqual((may_put_in(after), may_end(after)), ((), ()))
            put += len(wanted)
        self.assertGreater(put, 1000)

    def test_1_000_steps_and_more(self):
        # There are (18 * 18 + 5 * 5) * 3 = 1047 steps in all.
        book = ends_book(18, 5, 47)
        table = court(book, plain(book))
        self.assertEqual(len(may_put_in(table)), 1000)
        self.assertEqual(len(greatest(table).steps("main")) + len(greatest(table).steps("x")), 1047)
        book = ends_book(18, 5, 46)
        table = court(book, plain(book))
        for function in (may_put_in, greatest):
            with self.assertRaises(Refused) as caught:
                function(table)
            self.assertEqual(caught.exception.word, "wide")
        self.assertEqual(may_end(table), ())


class ChangeToTest(unittest.TestCase):
    def test_dead(self):
        table = court(ORDER, plain(ORDER))
        change = bar_out(table, (("order", 0), ("pay", 1)))
        self.assertEqual(change.book, barred(ORDER, (("order", 0), ("pay", 1))))
        self.assertEqual(attributes(change), ("dead", None, None, (), (), tuple(sorted(table.rows))))

    def test_broken(self):
        table = court(NEST, plain(NEST))
        change = put_in(table, "main", do(0, "b", 4))
        self.assertEqual(change.book, with_steps(NEST, (("main", do(0, "b", 4)),)))
        self.assertIsInstance(change.two, TwoEndings)
        two = court(change.book, plain(NEST))
        self.assertEqual(vars(change.two), vars(two))
        self.assertEqual((change.word, change.table, change.changed, change.fresh, change.gone), ("broken", None, (), (), ()))

    def test_kept(self):
        table = court(NEST, plain(NEST))
        change = bar_out(table, (("main", 0),))
        self.assertEqual((change.word, change.two, change.changed, change.fresh), ("kept", None, (), ()))
        self.assertEqual(change.gone, (("main", 1), ("main", 2), ("main", 3)))
        self.assertEqual(vars(change.table), vars(court(change.book, {"c": ("c",), "b": ("b",)})))
        # The deed a is no longer in the book, and no longer in the view.
        self.assertEqual(change.table.view, {"b": ("b",), "c": ("c",)})

    def test_turned(self):
        table = court(ORDER, plain(ORDER))
        change = bar_out(table, (("pay", 0),))
        self.assertEqual((change.word, change.two, change.fresh, change.gone), ("turned", None, (), (("pay", 1),)))
        self.assertEqual(change.changed, (
            (("order", 0), ("take", "card", "send"), ("take", "card", "stamp", "send")),
            (("order", 1), ("card", "send"), ("card", "stamp", "send")), (("pay", 0), ("card",), ("card", "stamp"))))
        self.assertIsInstance(change.table, OwedTable)

    def test_fresh_stages_and_other_courses(self):
        table = court(one_course(2, (1,), do(0, "a", 1)), {"a": ("a",), "b": ("b",), "zz": ("q",)})
        book = Book((course("main", 3, (2,), do(0, "a", 1), call(1, "y", 2)), course("y", 1, (0,))))
        change = change_to(table, book)
        self.assertEqual(attributes(change)[3:], ((), (("main", 2), ("y", 0)), ()))
        self.assertEqual(change.word, "kept")
        other = Book((course("go", 2, (1,), do(0, "b", 1)),))
        change = change_to(table, other)
        self.assertEqual((change.word, change.fresh, change.gone),
                         ("kept", (("go", 0), ("go", 1)), (("main", 0), ("main", 1))))
        self.assertEqual(change.table.view, {"b": ("b",)})
        self.assertEqual(change.book, other)

    def test_errors_that_are_passed_on(self):
        huge = tall((8, 8, 8, 8, 7, 7, 7, 7))
        table = court(one_course(2, (1,), do(0, "x", 1)), {"x": ("x",)})
        with self.assertRaises(Refused) as caught:
            change_to(table, huge)
        self.assertEqual(caught.exception.word, "long")
        for function, told in ((bar_out, (None,)), (bar_out, ([],))):
            with self.assertRaises(InvalidMove) as caught:
                function(table, *told)
            self.assertEqual(caught.exception.at, -1)

    def test_random_changes(self):
        rng = random.Random(871)
        seen = {"dead": 0, "broken": 0, "kept": 0, "turned": 0}
        for table in clear_tables(871, 40) + looped_tables(871, 15) + wider_tables(871, 40):
            book = table.book
            names = [(name, k) for name in book.names() for k in range(len(book.steps(name)))]
            for many in (1, 2):
                bars = tuple(rng.sample(names, min(many, len(names))))
                change = bar_out(table, bars)
                seen[change.word] += 1
                other = change.book
                self.assertEqual(other, barred(book, bars))
                stages = met(other)
                self.assertEqual(change.fresh, tuple(s for s in sorted(stages) if s not in table.rows))
                self.assertEqual(change.gone, tuple(s for s in sorted(table.rows) if s not in stages))
                self.assertEqual(change.word == "dead", (book.main(), 0) not in brute.useful(other))
                if change.word in ("kept", "turned"):
                    self.assertTrue(is_sound_table(change.table))
                    self.assertEqual(change.changed, tuple((s, table.rows[s], change.table.rows[s]) for s in sorted(stages)
                                                           if s in table.rows and table.rows[s] != change.table.rows[s]))
                    self.assertEqual(change.word == "kept", change.changed == ())
                    self.assertTrue(all(within(old, new) for _, old, new in change.changed))
                elif change.word == "broken":
                    self.assertNotEqual(change.two.one, change.two.other)
                    self.assertIsNone(change.table)
        self.assertGreater(min(seen.values()), 5)

    def test_change_keeps_its_arguments(self):
        told = {"book": NEST, "word": "dead", "table": None, "two": None, "changed": (), "fresh": (), "gone": ()}
        self.assertEqual(vars(Change(**told)), told)


class LimitsTest(unittest.TestCase):
    def test_at_the_limits(self):
        began = time.time()
        rng = random.Random(872)
        for _ in range(5):
            book = full_book(rng)
            table = court(book, {letter: () for letter in "ijklmnopqrst"})
            with self.assertRaises(Refused):
                may_put_in(table)
            change_to(table, full_book(rng))
        # Long rows: a line of 20 stages that calls lines of 20 stages.
        book = tall((9, 20, 20))
        table = court(book, {"x": ("x",)})
        with self.assertRaises(Refused):
            may_put_in(table)
        self.assertLess(time.time() - began, 10)


if __name__ == "__main__":
    unittest.main()
