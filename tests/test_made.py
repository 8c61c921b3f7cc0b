"""[91], [92]: books whose deeds are replaced by rows or by courses."""

import random
import unittest

import brute
from samples import DEAD, NEST, ORDER, TORN, call, course, do, one_course
from stillowed.books import Book
from stillowed.errors import NoEnding, Refused
from stillowed.lengths import plain
from stillowed.made import made_book, part_view, put_books
from stillowed.met import met
from stillowed.owed import OwedTable, court
from stillowed.single import owed_at
from stillowed.texts import book_of, read_courses


def verdict(book, view):
    """The rows of a clear book, None for another one."""
    found = court(book, view)
    return found.rows if isinstance(found, OwedTable) else None


class MadeTest(unittest.TestCase):
    def test_small_books(self):
        making = {"take": ("t", "u", "t"), "card": (), "stamp": ("s",), "send": ("t",), "more": ("z",)}
        self.assertEqual(made_book(ORDER, making), Book((
            course("order", 6, (3,), do(0, "t", 4), do(4, "u", 5), do(5, "t", 1), call(1, "pay", 2), do(2, "t", 3)),
            course("pay", 4, (1, 3), call(0, "a", 1), call(0, "a", 2), do(2, "s", 3)), course("a", 1, (0,)))))
        self.assertEqual(made_book(ORDER, plain(ORDER)), ORDER)
        lines = one_course(2, (1,), do(0, "a", 1), do(0, "b", 1), do(1, "a", 0))
        self.assertEqual(made_book(lines, {"a": ("x",), "b": ("x",)}),
                         one_course(2, (1,), do(0, "x", 1), do(1, "x", 0)))
        self.assertEqual(made_book(lines, {"a": ("x", "y"), "b": ("z", "z")}),
                         one_course(5, (1,), do(0, "x", 2), do(2, "y", 1), do(0, "z", 3), do(3, "z", 1), do(1, "x", 4),
                                    do(4, "y", 0)))
        self.assertEqual(made_book(lines, {"a": (), "b": ()}),
                         Book((course("main", 2, (1,), call(0, "a", 1), call(1, "a", 0)), course("a", 1, (0,)))))

    def test_names_of_the_still_course(self):
        book = Book((course("a", 2, (1,), do(0, "x", 1)), course("b", 1, (0,)), course("d", 1, (0,)), course("cc", 1, (0,))))
        self.assertEqual(made_book(book, {"x": ()}).names(), ("a", "b", "d", "cc", "c"))
        self.assertEqual(made_book(book, {"x": ("y",)}).names(), ("a", "b", "d", "cc"))
        unused = Book((course("m", 1, (0,)),))
        self.assertEqual(made_book(unused, {"x": ()}), unused)

    def test_limits(self):
        line = one_course(20, (19,), *[do(n, "a", n + 1) for n in range(18)], do(18, "b", 19))
        self.assertEqual(made_book(line, {"a": ("x",), "b": ("y",)}).courses[0][1], 20)
        many = [course(name, 1, (0,)) for name in "bcdefgh"]
        eight = Book((course("a", 2, (1,), do(0, "x", 1)),) + tuple(many))
        sixty = Book((course("a", 20, (19,), do(0, "x", 1)), course("b", 20, (0,)), course("c", 19, (0,))))
        full = Book((course("a", 2, (1,), do(0, "x", 1)), course("b", 20, (0,)), course("c", 20, (0,)), course("d", 18, (0,))))
        twelve = one_course(2, (1,), *[do(0, word, 1) for word in "abcdefghijkl"])
        letters = {word: (word,) for word in "abcdefghijkl"}
        self.assertEqual(made_book(twelve, {**letters, "a": ("l", "b", "c")}).courses[0][1], 4)
        steps = [(a, "do", word, b) for word in "abcdefghijkl" for a in range(4) for b in range(3)][:120]
        crowd = one_course(4, (3,), *steps)
        self.assertEqual(made_book(crowd, letters), crowd)
        for book, making in ((line, {"a": ("x",), "b": ("y", "y")}), (eight, {"x": ()}), (full, {"x": ()}),
                             (full, {"x": ("y", "y")}), (twelve, {**letters, "a": ("m", "n")}),
                             (crowd, {**letters, "a": ("l", "l")}), (sixty, {"x": ("y", "y")})):
            with self.assertRaises(Refused) as caught:
                made_book(book, making)
            self.assertEqual(caught.exception.word, "wide")
        self.assertEqual(len(made_book(eight, {"x": ("y",)}).courses), 8)
        self.assertEqual(made_book(sixty, {"x": ()}).courses[-1], course("d", 1, (0,)))

    def test_clear_as_by_the_making(self):
        rng = random.Random(1)
        counts = [0, 0]
        for book in brute.mixed_books(93, 300):
            making = brute.random_view(rng, book, 3)
            try:
                made = made_book(book, making)
            except Refused:
                continue
            found = brute.endings(book, 4, making)
            again = brute.endings(made, 4)
            for stage in book.stages():
                self.assertEqual(found[stage], again[stage])
            if (book.main(), 0) in brute.useful(book):
                rows = verdict(book, making)
                other = verdict(made, plain(made))
                counts[rows is None] += 1
                self.assertEqual(rows is None, other is None)
                if rows is not None:
                    self.assertEqual(rows, {stage: other[stage] for stage in rows})
                    self.assertEqual(sorted(rows), sorted(met(book)))
        self.assertGreater(min(counts), 10)


class PartsTest(unittest.TestCase):
    def test_small_books(self):
        part = book_of(read_courses("pack: box (wrap)\nwrap: tape [bow]"))
        found = put_books(ORDER, (("send", part), ("take", TORN)))
        self.assertEqual(found, Book((
            course("order", 4, (3,), call(0, "main", 1), call(1, "pay", 2), call(2, "pack", 3)), ORDER.courses[1])
            + part.courses + TORN.courses))
        self.assertEqual(put_books(ORDER, ()), ORDER)
        self.assertEqual(part_view(ORDER, (("send", part),)), {"take": ("take",), "card": ("card",), "stamp": ("stamp",),
                                                               "send": ("box", "tape")})
        self.assertEqual(part_view(ORDER, ()), plain(ORDER))

    def test_errors_in_order(self):
        dead = Book((course("dead", 1, ()),))
        same = Book((course("order", 1, (0,)),))
        torn = TORN
        wide = Book(tuple(course(name, 1, (0,)) for name in "abcdefg"))
        for parts, error, told in (((("card", same), ("send", DEAD)), NoEnding, ("main", 0)),
                                   ((("card", DEAD), ("send", dead)), NoEnding, ("main", 0)),
                                   ((("card", dead), ("send", DEAD)), NoEnding, ("dead", 0)),
                                   ((("card", same), ("send", wide)), Refused, "names"),
                                   ((("card", NEST), ("send", NEST)), Refused, "names"),
                                   ((("card", torn), ("send", wide)), Refused, "wide"),
                                   ((("card", wide),), Refused, "wide")):
            with self.assertRaises(error) as caught:
                put_books(ORDER, parts)
            self.assertEqual(caught.exception.stage if error is NoEnding else caught.exception.word, told)
        long_part = Book((course("p", 20, (19,), *[call(n, "q", n + 1) for n in range(19)]),
                          course("q", 20, (19,), *[call(n, "r", n + 1) for n in range(19)]),
                          course("r", 4, (3,), *[do(n, "x", n + 1) for n in range(3)])))
        for parts, error, told in (((("card", torn), ("send", DEAD)), NoEnding, ("main", 0)),
                                   ((("card", torn), ("send", long_part)), Refused, "torn"),
                                   ((("card", long_part), ("send", torn)), Refused, "long"),
                                   ((("card", long_part), ("send", same)), Refused, "long")):
            with self.assertRaises(error) as caught:
                part_view(ORDER, parts)
            self.assertEqual(caught.exception.stage if error is NoEnding else caught.exception.word, told)
        self.assertEqual(part_view(ORDER, (("card", same), ("send", same)))["card"], ())

    def test_limits(self):
        part = Book((course("x", 20, (19,), do(0, "a", 19)), course("y", 20, (0,))))
        line = one_course(20, (19,), do(0, "a", 1), do(1, "b", 19))
        self.assertEqual(sum(one[1] for one in put_books(line, (("a", part),)).courses), 60)
        more = Book((course("z", 1, (0,)),))
        deeds = Book((course("z", 2, (1,), *[do(0, word, 1) for word in "cdefghijklmn"]),))
        many = Book((course("z", 3, (2,), *[do(a, word, b) for a in range(3) for b in range(3) for word in "cdefghijklmn"]),))
        self.assertEqual(len(put_books(one_course(2, (1,), do(0, "a", 1)), (("a", deeds),)).deeds()), 12)
        for book, parts in ((line, (("a", part), ("b", more))), (line, (("a", deeds),)), (ORDER, (("card", deeds),))):
            with self.assertRaises(Refused) as caught:
                put_books(book, parts)
            self.assertEqual(caught.exception.word, "wide")
        crowd = one_course(5, (4,), *[(a, "do", "c", b) for a in range(5) for b in range(5)][:13])
        self.assertEqual(len(many.courses[0][3]), 108)
        with self.assertRaises(Refused):
            put_books(crowd, (("c", many),))

    def test_owed_as_by_the_view(self):
        rng = random.Random(2)
        counts = [0, 0]
        kinds = ["p: x | x y", "p: -", "p: {x}", "p: x (q) z\nq: y | y (q)", "p: y | x"]
        for book in brute.mixed_books(95, 260, courses=2, stages=3):
            if set(book.names()) & {"p", "q"} or not book.deeds():
                continue
            parts = ((rng.choice(book.deeds()), book_of(read_courses(rng.choice(kinds)))),)
            made = put_books(book, parts)
            try:
                view = part_view(book, parts)
            except Refused as error:
                self.assertEqual(error.word, "torn")
                continue
            for stage in brute.useful(book):
                row = owed_at(book, view, (stage,))
                counts[row is None] += 1
                self.assertEqual(owed_at(made, plain(made), (stage,)), row)
        self.assertGreater(min(counts), 20)


if __name__ == "__main__":
    unittest.main()
