"""[53], [54], [55], [58], [59]: lists of least endings."""

import itertools
import random
import time
import unittest

import brute
from samples import DEAD, NEST, ORDER, TORN, call, course, do, full_book, one_course, tall
from stillowed.books import Book
from stillowed.errors import InvalidNumber, NoEnding, Refused
from stillowed.lengths import plain
from stillowed.lists import count_of, least_rows, lists, lists_by, lists_of, lists_to_depth, row_by, row_products

SIZE = 5
WRONG = [None, True, False, -1, 1.0, "3", (), [2], {}, object(), 10 ** 30]


def least(rows):
    return brute.in_order(r for r in rows if not any(s != r and brute.quick_within(s, r) for s in rows))


def endings_to_depth(book, view, depth, size):
    """By each stage, its endings by a view of at most so many deeds that open no more calls within one another."""
    found = {s: set() for s in brute.all_stages(book)}
    called = endings_to_depth(book, view, depth - 1, size) if depth > 0 else {s: set() for s in found}
    while True:
        grown = False
        for s in found:
            new = {()} if brute.is_end(book, s) else set()
            for k in brute.leaving(book, s):
                step = book.steps(s[0])[k]
                parts = brute.parts(book, s, k)
                first = {view[step[2]]} if step[1] == "do" else called[parts[0]]
                new |= {x + y for x in first for y in found[parts[-1]] if len(x) + len(y) <= size}
            if not new <= found[s]:
                found[s] |= new
                grown = True
        if not grown:
            return found


class RowsTest(unittest.TestCase):
    def test_least_rows(self):
        self.assertEqual(least_rows([]), ())
        self.assertEqual(least_rows(()), ())
        self.assertEqual(least_rows([("b", "a"), ("b",), ("a", "a"), ("b",)]), (("b",), ("a", "a")))
        self.assertEqual(least_rows((("a",), (), ("a",))), ((),))
        rng = random.Random(121)
        for _ in range(300):
            rows = [tuple(rng.choice("abc") for _ in range(rng.randint(0, 5))) for _ in range(rng.randint(1, 12))]
            self.assertEqual(least_rows(rows), least(set(rows)))
            self.assertEqual(least_rows(tuple(rows + rows[::-1])), least(set(rows)))

    def test_seven_hundred_rows(self):
        began = time.time()
        rng = random.Random(122)
        rows = [tuple(rng.choice("abcdefghijkl") for _ in range(400)) for _ in range(700)]
        self.assertEqual(len(least_rows(rows)), 700)
        self.assertLess(time.time() - began, 20)

    def test_row_products(self):
        self.assertEqual(row_products([]), ((),))
        self.assertEqual(row_products(()), ((),))
        self.assertEqual(row_products([[("b",), ("a",)], (("a",), ())]), (("a",), ("b",), ("a", "a"), ("b", "a")))
        self.assertEqual(row_products([((), ("a",)), ((), ("a",))]), ((), ("a",), ("a", "a")))
        self.assertEqual(row_products([(("a",),), ()]), ())
        self.assertEqual(row_products([()]), ())

    def test_two_thousand_products(self):
        def rows(many):
            return [("a",) * n for n in range(many)]
        self.assertEqual(len(row_products([rows(40), rows(50)])), 89)
        self.assertEqual(len(row_products([rows(2000)])), 2000)
        for lots in ([rows(2001)], [rows(3), rows(667)], [rows(2)] * 11, [[("a",)] * 2] * 11, [[("a",)] * 2001]):
            with self.assertRaises(Refused) as caught:
                row_products(lots)
            self.assertEqual(caught.exception.word, "wide")
            self.assertEqual(row_products(lots + [()]), ())
        self.assertEqual(row_products([[("a",)] * 2] * 10), (("a",) * 10,))
        self.assertEqual(row_products([[("a",)]] * 40), (("a",) * 40,))
        self.assertEqual(len(row_products([rows(2)] + [rows(1)] * 38 + [rows(1000)])), 1001)

    def test_row_by(self):
        view = {"a": ("x", "y"), "b": (), "c": ("c",)}
        self.assertEqual(row_by(view, tuple("abcba")), ("x", "y", "c", "x", "y"))
        self.assertEqual(row_by(view, ()), ())


class ListsTest(unittest.TestCase):
    def test_small_books(self):
        self.assertEqual(lists(TORN, plain(TORN))[("main", 0)], (("card",), ("cash", "stamp")))
        self.assertEqual(lists(ORDER, plain(ORDER))[("order", 0)], (("take", "card", "send"),))
        self.assertEqual(lists(NEST, plain(NEST))[("main", 1)], (("c", "b"),))
        self.assertEqual(lists(DEAD, plain(DEAD)), {("main", 1): (("a",),), ("main", 2): ((),)})
        self.assertEqual(lists(TORN, {"card": (), "cash": (), "stamp": ("s",)})[("main", 0)], ((),))
        self.assertEqual(lists(TORN, {"card": ("x", "y"), "cash": ("y",), "stamp": ("x",)})[("main", 0)],
                         (("x", "y"), ("y", "x")))

    def test_rows_of_one_length_found_late(self):
        book = Book((course("main", 2, (1,), do(0, "b", 1), call(0, "x", 1)), course("x", 2, (1,), call(0, "y", 1)),
                     course("y", 2, (1,), do(0, "a", 1))))
        self.assertEqual(lists(book, plain(book))[("main", 0)], (("a",), ("b",)))

    def test_random_books_and_views(self):
        rng = random.Random(123)
        many_rows = 0
        for book in brute.mixed_books(123, 300):
            for view in (plain(book), brute.random_view(rng, book, 1), brute.random_view(rng, book, 2)):
                found = lists(book, view)
                self.assertEqual(list(found), sorted(brute.useful(book)))
                listed = brute.endings(book, SIZE, view)
                for stage, rows in found.items():
                    self.assertEqual(tuple(row for row in rows if len(row) <= SIZE), least(listed[stage]))
                    self.assertEqual(rows, least(rows))
                    many_rows += len(rows) > 1
        self.assertGreater(many_rows, 100)

    def test_greater_books_by_closure(self):
        # Every step makes only rows that hold one of the stage's list, and each row of the list is made by some way.
        long = 0
        for book in brute.forward_books(129, 200, courses=4, stages=6, deeds=8, call_odds=0.5, end_odds=0):
            try:
                table = lists(book, plain(book))
            except Refused:
                continue
            self.assertEqual(list(table), sorted(brute.useful(book)))
            for stage, rows in table.items():
                made = {()} if brute.is_end(book, stage) else set()
                for k in brute.leaving(book, stage):
                    step, parts = book.steps(stage[0])[k], brute.parts(book, stage, k)
                    if all(part in table for part in parts):
                        firsts = ((step[2],),) if step[1] == "do" else table[parts[0]]
                        made |= {x + y for x in firsts for y in table[parts[-1]]}
                self.assertEqual(rows, least(made))
                long += any(len(row) > SIZE for row in rows)
        self.assertGreater(long, 10)

    def test_wrong_limits_in_their_order(self):
        wide = one_course(1, (), *[do(0, word, 0) for word in "ab"])
        for value in WRONG + [0, 61]:
            for told in ({"most": value}, {"most": value, "longest": None}, {"most": value, "longest": 3}):
                with self.assertRaises(InvalidNumber) as caught:
                    lists(wide, plain(wide), **told)
                self.assertEqual(caught.exception.word, "most")
        for value in WRONG + [41]:
            for told in ({"longest": value}, {"most": 1, "longest": value}):
                with self.assertRaises(InvalidNumber) as caught:
                    lists(TORN, plain(TORN), **told)
                self.assertEqual(caught.exception.word, "longest")
        with self.assertRaises(TypeError):
            lists(TORN, plain(TORN), 60, 40)

    def test_most(self):
        for many in (1, 2, 12):
            book = one_course(2, (1,), *[do(0, word, 1) for word in "abcdefghijkl"[:many]])
            self.assertEqual(len(lists(book, plain(book), most=many)[("main", 0)]), many)
            if many > 1:
                with self.assertRaises(Refused) as caught:
                    lists(book, plain(book), most=many - 1)
                self.assertEqual(caught.exception.word, "wide")
        words = "abcdefghijkl"
        for many in (60, 61):
            pairs = [(x, y) for x in words for y in words][:many]
            steps = [do(0, x, 1 + words.index(x)) for x in sorted({x for x, _ in pairs})]
            book = one_course(14, (13,), *steps, *[do(1 + words.index(x), y, 13) for x, y in pairs])
            if many == 60:
                self.assertEqual(lists(book, plain(book))[("main", 0)], tuple(pairs))
            else:
                with self.assertRaises(Refused):
                    lists(book, plain(book))
                # A stage that is not met counts, too.
                with self.assertRaises(Refused):
                    lists(Book((course("a", 1, (0,)),) + book.courses), plain(book))
                # Rows that have a shorter one within them do not count.
                ended = one_course(14, (0, 13), *book.courses[0][3])
                self.assertEqual(lists(ended, plain(ended))[("main", 0)], ((),))

    def test_longest(self):
        book = one_course(4, (3,), do(0, "a", 1), do(1, "a", 2), do(2, "a", 3))
        self.assertEqual(lists(book, plain(book), longest=3)[("main", 0)], (("a",) * 3,))
        for longest in (0, 2):
            with self.assertRaises(Refused) as caught:
                lists(book, plain(book), longest=longest)
            self.assertEqual(caught.exception.word, "wide")
        self.assertEqual(lists(book, {"a": ()}, longest=0)[("main", 0)], ((),))
        view = {"a": ("x",) * 13}
        self.assertEqual(lists(book, view)[("main", 0)], (("x",) * 39,))
        line = one_course(3, (2,), do(0, "a", 1), do(1, "a", 2))
        self.assertEqual(lists(line, {"a": ("x",) * 20}), lists_to_depth(line, {"a": ("x",) * 20}, 3))
        self.assertEqual(lists(line, {"a": ("x",) * 20})[("main", 0)], (("x",) * 40,))
        for one, view in ((book, {"a": ("x",) * 14}), (one_course(2, (1,), do(0, "a", 1)), {"a": ("x",) * 41})):
            with self.assertRaises(Refused):
                lists(one, view)
            with self.assertRaises(Refused):
                lists_to_depth(one, view, 0)
        with self.assertRaises(Refused):
            lists(one_course(2, (1,), do(0, "a", 1)), {"a": ("x",) * 400})
        # A longer ending that has a shorter one within it is no least one.
        book = one_course(3, (2,), do(0, "a", 1), do(1, "a", 1), do(0, "b", 2), do(1, "c", 2))
        self.assertEqual(lists(book, {"a": ("x",) * 30, "b": (), "c": ("x",) * 10}, longest=10)[("main", 0)], ((),))

    def test_at_the_limits(self):
        began = time.time()
        rng = random.Random(124)
        for _ in range(12):
            book = full_book(rng)
            view = {deed: (deed,) if at % 3 else () for at, deed in enumerate(book.deeds())}
            for one in (plain(book), view):
                for function, told in ((lists, ()), (lists_to_depth, (10 ** 20,))):
                    try:
                        function(book, one, *told)
                    except Refused as error:
                        self.assertEqual(error.word, "wide")
        book = tall((20, 20, 2))
        with self.assertRaises(Refused):
            lists(book, plain(book))
        self.assertLess(time.time() - began, 20)


class DepthTest(unittest.TestCase):
    def test_small_books(self):
        self.assertEqual(lists_to_depth(NEST, plain(NEST), 0)[("main", 0)], (("c",),))
        self.assertNotIn(("main", 1), lists_to_depth(NEST, plain(NEST), 0))
        self.assertEqual(lists_to_depth(NEST, plain(NEST), 1)[("main", 1)], (("c", "b"),))
        self.assertNotIn(("order", 0), lists_to_depth(ORDER, plain(ORDER), 0))
        self.assertEqual(lists_to_depth(ORDER, plain(ORDER), 1), lists(ORDER, plain(ORDER)))

    def test_a_call_needs_one_even_where_the_caller_ends_behind_it(self):
        book = Book((course("main", 2, (1,), call(0, "x", 1), do(0, "a", 1)), course("x", 1, (0,))))
        self.assertEqual(lists_to_depth(book, plain(book), 0)[("main", 0)], (("a",),))
        self.assertEqual(lists_to_depth(book, plain(book), 1)[("main", 0)], ((),))

    def test_random_books(self):
        rng = random.Random(125)
        deep = 0
        for book in brute.mixed_books(125, 200):
            for view in (plain(book), brute.random_view(rng, book, 2)):
                for depth in range(5):
                    found = lists_to_depth(book, view, depth)
                    listed = endings_to_depth(book, view, depth, SIZE)
                    self.assertEqual(list(found), sorted(found))
                    for stage in book.stages():
                        rows = tuple(row for row in found.get(stage, ()) if len(row) <= SIZE)
                        self.assertEqual(rows, least(listed[stage]))
                        self.assertEqual(found.get(stage, ()), least(found.get(stage, ())))
                    deep += depth > 0 and found != lists_to_depth(book, view, depth - 1)
                every = lists(book, view)
                for depth in (len(book.names()), len(book.names()) + 7, 10 ** 30):
                    self.assertEqual(lists_to_depth(book, view, depth), every)
                short = lists_to_depth(book, view, len(book.names()) - 1)
                for name in book.names():
                    self.assertEqual(short.get((name, 0)), every.get((name, 0)))
        self.assertGreater(deep, 50)

    def test_errors_in_their_order(self):
        for value in WRONG[:-1]:
            for told in ({}, {"most": None}, {"longest": None}):
                with self.assertRaises(InvalidNumber) as caught:
                    lists_to_depth(TORN, plain(TORN), value, **told)
                self.assertEqual(caught.exception.word, "depth")
        for told, word in (({"most": 0}, "most"), ({"most": 61, "longest": 41}, "most"), ({"longest": 41}, "longest")):
            with self.assertRaises(InvalidNumber) as caught:
                lists_to_depth(TORN, plain(TORN), 3, **told)
            self.assertEqual(caught.exception.word, word)
        with self.assertRaises(Refused) as caught:
            lists_to_depth(TORN, plain(TORN), 0, most=1)
        self.assertEqual(caught.exception.word, "wide")

    def test_wide_for_some_depth_up_to_this_one(self):
        # Without calls, main has two least endings; with one call, the empty ending alone.
        book = Book((course("main", 2, (1,), do(0, "a", 1), do(0, "b", 1), call(0, "x", 1)), course("x", 1, (0,))))
        self.assertEqual(lists(book, plain(book), most=1)[("main", 0)], ((),))
        for depth in (0, 1, 5):
            with self.assertRaises(Refused):
                lists_to_depth(book, plain(book), depth, most=1)
            self.assertTrue(lists_to_depth(book, plain(book), depth, most=2))
        # With one call there are two, without calls one.
        book = Book((course("main", 2, (1,), do(0, "a", 1), call(0, "x", 1)), course("x", 2, (1,), do(0, "b", 1))))
        self.assertEqual(lists_to_depth(book, plain(book), 0, most=1)[("main", 0)], (("a",),))
        with self.assertRaises(Refused):
            lists_to_depth(book, plain(book), 1, most=1)
        with self.assertRaises(Refused):
            lists_to_depth(book, {"a": ("a",), "b": ("b", "b")}, 2, longest=1)


class ViewsAndMomentsTest(unittest.TestCase):
    def test_lists_by(self):
        rng = random.Random(126)
        for book in brute.mixed_books(126, 200):
            table = lists(book, plain(book))
            for _ in range(3):
                view = brute.random_view(rng, book, 2)
                self.assertEqual(lists_by(table, view), lists(book, view))
                self.assertEqual(list(lists_by(table, view)), list(table))
                once = lists_by(table, {**view, "zzz": ("q",)})
                other = {name: brute.random_view(rng, book)["a"] if "a" in book.deeds() else () for name in "abxq"}
                self.assertEqual(lists_by(once, other), {
                    stage: least({row_by(other, row) for row in once[stage]}) for stage in once})
        self.assertEqual(lists_by({}, {}), {})

    def test_lists_of_moments(self):
        rng = random.Random(127)
        for book in brute.mixed_books(127, 200):
            table = lists(book, plain(book))
            stages = list(table)
            if not stages:
                continue
            for many in range(4):
                moment = tuple(rng.choice(stages) for _ in range(many))
                total = 1
                for stage in moment:
                    total *= len(table[stage])
                self.assertEqual(count_of(table, moment), total)
                if total <= 300:
                    rows = [()]
                    for stage in moment:
                        rows = [row + other for row in rows for other in table[stage]]
                    self.assertEqual(lists_of(table, moment), brute.in_order(rows))
                    self.assertEqual(len(lists_of(table, moment)), total)
        self.assertEqual(lists_of({}, ()), ((),))
        self.assertEqual(count_of({}, ()), 1)

    def test_stages_that_the_table_does_not_have(self):
        table = lists(DEAD, plain(DEAD))
        for function in (lists_of, count_of):
            for moment, stage in (((("main", 0),), ("main", 0)), ((("main", 1), ("main", 0)), ("main", 0)),
                                  ((("main", 1), ("x", 3), ("main", 0)), ("x", 3))):
                with self.assertRaises(NoEnding) as caught:
                    function(table, moment)
                self.assertEqual(caught.exception.stage, stage)

    def test_two_thousand(self):
        table = {("m", n): tuple((word,) for word in "abcdefghijkl"[:n]) for n in range(1, 13)}
        self.assertEqual(len(lists_of(table, (("m", 10),) * 3 + (("m", 2),))), 2000)
        for moment in ((("m", 12),) * 4, (("m", 10),) * 3 + (("m", 3),), (("m", 2),) * 11):
            with self.assertRaises(Refused) as caught:
                lists_of(table, moment)
            self.assertEqual(caught.exception.word, "wide")
        self.assertEqual(count_of(table, (("m", 12),) * 40), 12 ** 40)
        with self.assertRaises(NoEnding):
            lists_of(table, (("m", 12),) * 4 + (("m", 0),))

    def test_products_of_lists_are_the_lists_of_moments(self):
        for book in brute.mixed_books(128, 100, courses=2, stages=3):
            table = lists(book, plain(book))
            listed = brute.endings(book, 4)
            for moment in itertools.product(list(table)[:3], repeat=2):
                rows = {x + y for x in listed[moment[0]] for y in listed[moment[1]]}
                short = tuple(row for row in lists_of(table, moment) if len(row) <= 4)
                self.assertEqual(short, tuple(row for row in least(rows) if len(row) <= 4))


if __name__ == "__main__":
    unittest.main()
