"""[12]: books, and the names and stages of [1] and [2]."""

import unittest

import brute
from samples import NEST, ORDER, call, course, do
from stillowed.books import Book
from stillowed.errors import InvalidBook

GOOD = [course("main", 3, (2,), do(0, "a", 1), call(1, "x", 2)), course("x", 2, (0, 1), do(0, "b", 1)),
        course("y", 1, (), do(0, "b", 0))]

# Values that are no course in themselves.
NO_COURSES = [
    None, 3, "main", [], ["q", 1, (), ()], (), ("q",), ("q", 1, ()), ("q", 1, (), (), ()), {"q": 1},
    ("", 1, (), ()), ("Q", 1, (), ()), ("abcdef", 1, (), ()), ("a1", 1, (), ()), (b"q", 1, (), ()), (1, 1, (), ()),
    ("q ", 1, (), ()), ("\xe4", 1, (), ()), (("q",), 1, (), ()), (["q"], 1, (), ()), (None, 1, (), ()),
    ("q", 0, (), ()), ("q", -1, (), ()), ("q", 21, (), ()), ("q", 10 ** 30, (), ()), ("q", True, (), ()),
    ("q", 1.0, (), ()), ("q", "1", (), ()), ("q", None, (), ()), ("q", (1,), (), ()),
    ("q", 3, [], ()), ("q", 3, (3,), ()), ("q", 3, (-1,), ()), ("q", 3, (0, 0), ()), ("q", 3, (1, 0), ()),
    ("q", 3, (0, True), ()), ("q", 3, (False,), ()), ("q", 3, (0.0,), ()), ("q", 3, ("0",), ()), ("q", 3, None, ()),
    ("q", 3, (0, 2, 1), ()), ("q", 3, ((0,),), ()), ("q", 3, ([],), ()), ("q", 3, {0: 1}, ()), ("q", 3, 0, ()),
    ("q", 2, (), []), ("q", 2, (), None), ("q", 2, (), (None,)), ("q", 2, (), ([0, "do", "a", 1],)),
    ("q", 2, (), ((0, "do", "a"),)), ("q", 2, (), ((0, "do", "a", 1, 1),)), ("q", 2, (), ((2, "do", "a", 1),)),
    ("q", 2, (), ((0, "do", "a", 2),)), ("q", 2, (), ((-1, "do", "a", 1),)), ("q", 2, (), ((0, "do", "a", -1),)),
    ("q", 2, (), ((True, "do", "a", 1),)), ("q", 2, (), ((0, "do", "a", True),)), ("q", 2, (), ((0.0, "do", "a", 1),)),
    ("q", 2, (), ((0, "do", "a", 1.0),)), ("q", 2, (), ((0, "did", "a", 1),)), ("q", 2, (), ((0, "leave", "a", 1),)),
    ("q", 2, (), ((0, None, "a", 1),)), ("q", 2, (), ((0, ["do"], "a", 1),)), ("q", 2, (), ((0, "do", "A", 1),)),
    ("q", 2, (), ((0, "do", "", 1),)), ("q", 2, (), ((0, "do", "abcdef", 1),)), ("q", 2, (), ((0, "do", None, 1),)),
    ("q", 2, (), ((0, "do", ["a"], 1),)), ("q", 2, (), ((0, "call", "Q", 1),)), ("q", 2, (), ((0, "call", 1, 1),)),
    ("q", 2, (), ((0, "call", "q" * 6, 1),)), ("q", 2, (), ((0, "do", "a", 1), (0, "do", "a", 1))),
    ("q", 2, (), ((0, "do", "a", 1), (1, "call", "q", 0), (0, "do", "a", 1))), ("q", 2, (), (((), "do", "a", 1),)),
    ("q", 2, (), ((0, "do", "a", {}),)), ("q", 2, (), "do"), ("q", 2, (), 5),
]


def at_of(test, value):
    with test.assertRaises(InvalidBook) as caught:
        Book(value)
    return caught.exception.at


class WrongBooksTest(unittest.TestCase):
    def test_no_tuple(self):
        for value in brute.ODD_VALUES + [list(GOOD), ORDER]:
            if not isinstance(value, tuple):
                self.assertEqual(at_of(self, value), -1)

    def test_odd_tuples(self):
        for value in brute.ODD_VALUES:
            if isinstance(value, tuple):
                self.assertEqual(at_of(self, value), 0, value)

    def test_none_at_all(self):
        self.assertEqual(at_of(self, ()), 0)

    def test_each_wrong_form_at_each_place(self):
        for wrong in NO_COURSES:
            for at in range(len(GOOD) + 1):
                value = GOOD[:at] + [wrong] + GOOD[at:]
                self.assertEqual(at_of(self, tuple(value)), at, wrong)
                self.assertEqual(at_of(self, tuple(value) + (None,)), at, wrong)
                value = [("z", 1, (), ((0, "call", "gone", 0),))] + value
                self.assertEqual(at_of(self, tuple(value)), at + 1, "form goes before unknown calls")

    def test_name_of_an_earlier_one(self):
        self.assertEqual(at_of(self, tuple(GOOD + [course("main", 1, ())])), 3)
        self.assertEqual(at_of(self, (GOOD[0], course("main", 1, ()), GOOD[1])), 1)
        self.assertEqual(at_of(self, (GOOD[1], GOOD[1], None)), 1)
        self.assertEqual(at_of(self, (call(0, "a", 1), GOOD[1], GOOD[1])), 0)

    def test_the_ninth(self):
        eight = tuple(course(name, 1, ()) for name in "abcdefgh")
        self.assertEqual(len(Book(eight).names()), 8)
        self.assertEqual(at_of(self, eight + (course("i", 1, ()),)), 8)
        self.assertEqual(at_of(self, eight + (None, None)), 8)
        self.assertEqual(at_of(self, eight[:7] + (None,) + eight[7:]), 7)
        self.assertEqual(at_of(self, eight[:7] + (course("a", 1, ()), eight[7])), 7)
        nine = (course("a", 1, (), call(0, "gone", 0)),) + eight[1:] + (course("i", 1, ()),)
        self.assertEqual(at_of(self, nine), 8)

    def test_calls_of_no_course(self):
        self.assertEqual(at_of(self, (course("a", 1, (), call(0, "b", 0)),)), 0)
        self.assertEqual(at_of(self, (course("a", 1, ()), course("b", 1, (), call(0, "a", 0), call(0, "c", 0)),
                                      course("d", 1, (), call(0, "e", 0)))), 1)
        self.assertEqual(at_of(self, (GOOD[0], GOOD[2])), 0)
        self.assertEqual(at_of(self, (course("a", 1, ()), course("b", 1, ()), course("c", 1, (), call(0, "d", 0)))), 2)

    def test_sixty_stages(self):
        def stages(*counts):
            return tuple(course(name, many, ()) for name, many in zip("abcdefgh", counts))
        self.assertEqual(len(Book(stages(20, 20, 20)).stages()), 60)
        self.assertEqual(len(Book(stages(20, 20, 19, 1)).stages()), 60)
        self.assertEqual(at_of(self, stages(20, 20, 20, 1)), 3)
        self.assertEqual(at_of(self, stages(20, 20, 1, 20, 20)), 3)
        self.assertEqual(at_of(self, stages(20, 20, 20, 1, 1)), 3)
        self.assertEqual(at_of(self, stages(1, 21, 20, 20, 20)), 1)

    def test_twelve_deeds(self):
        def doing(name, words):
            return course(name, 1, (), *[do(0, word, 0) for word in words])
        self.assertEqual(len(Book((doing("a", "abcdef"), doing("b", "ghijkl"), doing("c", "al"))).deeds()), 12)
        self.assertEqual(at_of(self, (doing("a", "abcdefghijklm"),)), 0)
        self.assertEqual(at_of(self, (doing("a", "abcdefghijkl"), doing("b", "a"), doing("c", "m"))), 2)
        self.assertEqual(at_of(self, (doing("a", "abcdef"), doing("b", "ghijklm"), doing("c", "no"))), 1)

    def test_least_of_the_last_kinds(self):
        many = tuple(do(0, word, 0) for word in "abcdefghijklm")
        value = (course("a", 1, ()), course("b", 1, (), *many), course("c", 1, (), call(0, "gone", 0)))
        self.assertEqual(at_of(self, value), 1)
        value = (course("a", 1, ()), course("b", 1, (), call(0, "gone", 0)), course("c", 1, (), *many))
        self.assertEqual(at_of(self, value), 1)
        value = tuple(course(name, 20, ()) for name in "abcd") + (course("e", 1, (), call(0, "gone", 0)),)
        self.assertEqual(at_of(self, value), 3)


class BookTest(unittest.TestCase):
    def test_limits_are_let_by(self):
        steps = tuple(do(n, "abcdefghijkl"[(n + m) % 12], m) for n in range(20) for m in range(20))
        self.assertEqual(Book((course("abcde", 20, tuple(range(20)), *steps),)).steps("abcde"), steps)
        self.assertEqual(Book((course("z", 1, ()),)).courses, (("z", 1, (), ()),))

    def test_one_book(self):
        self.assertEqual(ORDER.names(), ("order", "pay"))
        self.assertEqual(ORDER.main(), "order")
        self.assertEqual((ORDER.index_of("order"), ORDER.index_of("pay"), ORDER.index_of("main")), (0, 1, None))
        self.assertEqual((ORDER.ends("order"), ORDER.ends("pay")), ((3,), (1, 3)))
        self.assertEqual(ORDER.steps("pay"), (do(0, "card", 1), do(0, "card", 2), do(2, "stamp", 3)))
        self.assertEqual(ORDER.steps_from(("pay", 0)), (0, 1))
        self.assertEqual(ORDER.steps_from(("pay", 2)), (2,))
        self.assertEqual(ORDER.steps_from(("pay", 3)), ())
        self.assertEqual([ORDER.is_end(("pay", n)) for n in range(4)], [False, True, False, True])
        self.assertEqual(ORDER.calls(), (("order", "pay"),))
        self.assertEqual(ORDER.deeds(), ("card", "send", "stamp", "take"))
        self.assertEqual(ORDER.stages(), tuple(("order", n) for n in range(4)) + tuple(("pay", n) for n in range(4)))
        self.assertIs(ORDER.is_end(("pay", 1)), True)

    def test_ascending_not_in_the_order_of_the_book(self):
        book = Book((course("z", 2, (), call(1, "b", 0), call(0, "b", 0), call(0, "a", 1)), course("b", 1, (0,)),
                     course("a", 1, (), do(0, "y", 0), do(0, "c", 0), call(0, "z", 0))))
        self.assertEqual(book.names(), ("z", "b", "a"))
        self.assertEqual(book.main(), "z")
        self.assertEqual(book.stages(), (("a", 0), ("b", 0), ("z", 0), ("z", 1)))
        self.assertEqual(book.calls(), (("a", "z"), ("z", "a"), ("z", "b")))
        self.assertEqual(book.deeds(), ("c", "y"))
        self.assertEqual(book.steps_from(("z", 0)), (1, 2))

    def test_random_books(self):
        for book in brute.mixed_books(1, 200):
            self.assertEqual(list(book.stages()), brute.all_stages(book))
            for stage in book.stages():
                self.assertEqual(list(book.steps_from(stage)), brute.leaving(book, stage))
                self.assertEqual(book.is_end(stage), brute.is_end(book, stage))
                self.assertTrue(book.is_stage(stage))
            for at, (name, many, ends, steps) in enumerate(book.courses):
                self.assertEqual((book.index_of(name), book.ends(name), book.steps(name)), (at, ends, steps))
                self.assertFalse(book.is_stage((name, many)))
            self.assertEqual(list(book.calls()), sorted({(name, step[2]) for name, _, _, steps in book.courses
                                                         for step in steps if step[1] == "call"}))
            self.assertEqual(list(book.deeds()), sorted({step[2] for course in book.courses for step in course[3]
                                                         if step[1] == "do"}))
            for returned in (book.names(), book.stages(), book.calls(), book.deeds(), book.steps_from(stage)):
                self.assertIsInstance(returned, tuple)

    def test_any_value(self):
        for value in brute.ODD_VALUES + [("main", 5), ("main", 10 ** 30), ("gone", 0), ("main", 0, 0), ORDER]:
            right = isinstance(value, str) and value == "main"
            self.assertEqual(NEST.index_of(value), 0 if right else None, value)
            right = isinstance(value, tuple) and value == ("main", 0) and isinstance(value[1], int) and \
                not isinstance(value[1], bool)
            self.assertIs(NEST.is_stage(value), right, value)
        self.assertIs(NEST.is_stage(("main", 4)), True)
        self.assertIs(NEST.is_stage(("main", 1)), True)
        self.assertIs(NEST.is_stage(("main", True)), False)

    def test_equality(self):
        again = Book(tuple(tuple(part) for part in ORDER.courses))
        self.assertTrue(ORDER == again)
        self.assertFalse(ORDER != again)
        self.assertFalse(ORDER == NEST)
        self.assertTrue(ORDER != NEST)
        swapped = Book((ORDER.courses[1], ORDER.courses[0]))
        self.assertFalse(ORDER == swapped)
        name, many, ends, steps = ORDER.courses[1]
        self.assertFalse(ORDER == Book((ORDER.courses[0], (name, many, ends, steps[::-1]))))
        for value in brute.ODD_VALUES + [ORDER.courses]:
            self.assertFalse(ORDER == value)
            self.assertTrue(ORDER != value)


if __name__ == "__main__":
    unittest.main()
