"""[10], [13]: normal forms and rows of expressions."""

import random
import time
import unittest

import brute
from stillowed.errors import InvalidNumber, Refused
from stillowed.expressions import normal, rows_of

A, B, C = ("deed", "a"), ("deed", "b"), ("deed", "c")


def seq(*parts):
    return ("seq", parts)


def either(*parts):
    return ("either", parts)


def is_normal(expression):
    word = expression[0]
    if word in ("seq", "either"):
        return all(part[0] != word and is_normal(part) for part in expression[1])
    if word in ("maybe", "again"):
        return is_normal(expression[1])
    return True


class NormalTest(unittest.TestCase):
    def test_single_ones_stay(self):
        for one in (A, ("call", "main"), ("nothing",), ("maybe", A), ("again", ("call", "x")), seq(A, B), either(A, A)):
            self.assertEqual(normal(one), one)

    def test_parts_stand_in_place(self):
        self.assertEqual(normal(seq(seq(A, B), C)), seq(A, B, C))
        self.assertEqual(normal(seq(A, seq(B, C))), seq(A, B, C))
        self.assertEqual(normal(seq(A, seq(B, seq(C, A)), seq(B, B), C)), seq(A, B, C, A, B, B, C))
        self.assertEqual(normal(either(either(A, B), either(C, either(A, B)))), either(A, B, C, A, B))

    def test_nothing_else_changes(self):
        one = seq(either(A, A), ("nothing",), either(B, seq(A, C)))
        self.assertEqual(normal(one), one)
        self.assertEqual(normal(either(seq(either(A, B), C), either(C))[:1] + ((seq(either(A, B), C), A),)),
                         either(seq(either(A, B), C), A))
        self.assertEqual(normal(("maybe", ("maybe", ("again", seq(A, seq(B, C)))))),
                         ("maybe", ("maybe", ("again", seq(A, B, C)))))
        # A seq within a maybe within a seq is no part of the outer seq.
        self.assertEqual(normal(seq(A, ("maybe", seq(B, C)))), seq(A, ("maybe", seq(B, C))))
        self.assertEqual(normal(seq(A, either(seq(B, seq(C, A)), C))), seq(A, either(seq(B, C, A), C)))

    def test_a_hundred_deep(self):
        for many in (100, 120):
            deep = A
            for _ in range(many):
                deep = seq(deep, B)
            self.assertEqual(normal(deep), ("seq", (A,) + (B,) * many))
            deep = A
            for at in range(many):
                deep = (either(B, deep), ("maybe", deep), ("again", deep), seq(C, deep))[at % 4]
            self.assertEqual(normal(deep), deep)

    def test_random_ones(self):
        rng = random.Random(51)
        for _ in range(500):
            one = brute.random_expression(rng, ["main"], 5, "ab")
            found = normal(one)
            self.assertTrue(is_normal(found))
            self.assertEqual(normal(found), found)
            if is_normal(one):
                self.assertEqual(found, one)


class RowsOfTest(unittest.TestCase):
    def test_each_kind(self):
        for expression, rows in (
                (A, (("a",),)), (("nothing",), ((),)), (seq(A, B), (("a", "b"),)), (either(B, A), (("a",), ("b",))),
                (("maybe", A), ((), ("a",))), (("again", A), ((), ("a",), ("a", "a"), ("a", "a", "a"))),
                (("again", seq(A, B)), ((), ("a", "b"))), (("again", ("maybe", A)), tuple(("a",) * n for n in range(4))),
                (seq(("maybe", A), B, ("maybe", C)), (("b",), ("a", "b"), ("b", "c"), ("a", "b", "c"))),
                (either(A, A), (("a",),)), (seq(A, B, C, A), ())):
            self.assertEqual(rows_of((("main", expression),), "main", 3), rows)

    def test_calls(self):
        courses = (("main", either(seq(A, ("call", "main"), B), C)), ("x", seq(("call", "main"), ("call", "main"))),
                   ("y", ("call", "y")), ("z", either(("call", "y"), A)))
        self.assertEqual(rows_of(courses, "main", 5), (("c",), ("a", "c", "b"), tuple("aacbb")))
        self.assertEqual(rows_of(courses, "x", 5), (("c", "c"), tuple("acbc"), tuple("cacb")))
        self.assertEqual(rows_of(courses, "y", 5), ())
        self.assertEqual(rows_of(courses, "z", 5), (("a",),))

    def test_sizes(self):
        courses = (("main", ("again", either(A, B))),)
        for size in range(9):
            self.assertEqual(len(rows_of(courses, "main", size)), 2 ** (size + 1) - 1)
        self.assertEqual(rows_of(courses, "main", 0), ((),))
        self.assertEqual(rows_of((("main", A),), "main", 0), ())
        for value in (None, True, False, -1, 9, 10 ** 30, 1.0, "3", (), [2], {}, object()):
            with self.assertRaises(InvalidNumber) as caught:
                rows_of(courses, "main", value)
            self.assertEqual(caught.exception.word, "size")

    def test_random_ones(self):
        rng = random.Random(52)
        wide = 0
        for n in range(1200):
            names = ["main", "x", "y"][:rng.randint(1, 3)]
            courses = brute.random_courses(rng, names, rng.randint(2, 5), "ab" if n % 2 else "abcdefghij")
            size = rng.randint(0, 8)
            known, most = brute.expression_rows(courses, size)
            if most > 1000:
                wide += 1
                with self.assertRaises(Refused) as caught:
                    rows_of(courses, rng.choice(names), size)
                self.assertEqual(caught.exception.word, "wide")
            else:
                for name in names:
                    self.assertEqual(rows_of(courses, name, size), brute.in_order(known[name]))
        self.assertGreater(wide, 2)

    def test_a_thousand_rows(self):
        def some(many):
            return either(*[("deed", word) for word in "abcdefghijkl"[:many]])
        ten = some(10)
        self.assertEqual(len(rows_of((("main", seq(ten, ten, ten)),), "main", 3)), 1000)
        self.assertEqual(rows_of((("main", seq(ten, ten, ten)),), "main", 2), ())
        for wide in (either(seq(ten, ten, ten), ("nothing",)), ("maybe", seq(ten, ten, ten)), seq(some(12), ten, ten),
                     ("again", seq(ten, ten, ten)), seq(ten, ten, ten, ("maybe", A))):
            with self.assertRaises(Refused) as caught:
                rows_of((("main", wide),), "main", 8)
            self.assertEqual(caught.exception.word, "wide")

    def test_wide_wherever_it_is_written(self):
        twelve = either(*[("deed", word) for word in "abcdefghijkl"])
        wide = seq(twelve, twelve, twelve)
        # In another course, within a seq that comes to nothing, and as the beginning of a seq.
        for courses in ((("main", A), ("x", wide)), (("main", either(A, seq(wide, ("call", "x")))), ("x", ("call", "x"))),
                        (("main", A), ("x", seq(twelve, twelve, twelve, ("call", "x"))))):
            with self.assertRaises(Refused):
                rows_of(courses, "main", 8)
            self.assertEqual(rows_of(courses, "main", 2), (("a",),))
        # Not the beginning but a later piece of a seq would be wide: this is no expression that is written.
        late = seq(A, A, A, A, A, A, twelve, twelve, twelve)
        self.assertEqual(rows_of((("main", late),), "main", 8), ())
        with self.assertRaises(Refused):
            rows_of((("main", seq(A, A, A, A, A, A, wide)),), "main", 8)
        self.assertEqual(rows_of((("main", normal(seq(A, A, A, A, A, A, wide))),), "main", 8), ())

    def test_many_nested_courses_in_a_short_time(self):
        began = time.time()
        names = ["main", "b", "c", "d", "e", "f", "g", "h"]
        courses = tuple((name, either(seq(("call", names[(at + 1) % 8]), ("maybe", ("call", names[at - 1]))), A,
                                      ("nothing",))) for at, name in enumerate(names))
        self.assertEqual(rows_of(courses, "main", 8), tuple(("a",) * n for n in range(9)))
        deep = A
        for _ in range(100):
            deep = ("maybe", deep)
        self.assertEqual(rows_of((("main", deep),), "main", 8), ((), ("a",)))
        self.assertLess(time.time() - began, 10)


if __name__ == "__main__":
    unittest.main()
