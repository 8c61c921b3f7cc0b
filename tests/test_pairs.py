"""[100], [101]: holders, swapped courses, and what two books share."""

import random
import unittest

import brute
from brute import ODD_VALUES, quick_within
from samples import DEAD, NEST, ORDER, call, course, do, full_book
from stillowed.books import Book
from stillowed.errors import InvalidBook, Refused
from stillowed.lengths import plain
from stillowed.lists import lists
from stillowed.pairs import holders, holds, is_shared, meet, reached, swapped
from stillowed.texts import book_of, read_courses

MOST = 5000


def variant(rng, book, odds=0.1):
    """A book that matches, with some steps and ends left out, and others put in."""
    courses = []
    words = book.deeds() if len(book.deeds()) > 9 else "abc"
    for name, many, ends, steps in book.courses:
        kept = [step for step in steps if rng.random() >= odds]
        for _ in steps:
            step = (rng.randrange(many), "do", rng.choice(words), rng.randrange(many))
            if rng.random() < odds and step not in kept:
                kept.append(step)
        rng.shuffle(kept)
        kept_ends = tuple(n for n in range(many) if (n in ends) != (rng.random() < odds / 2))
        courses.append((name, many, kept_ends, tuple(kept)))
    return Book(tuple(courses))


def shared_moments(one, other, depth):
    """The shared moments reached through moments of at most so many stages; None if there are very many."""
    both = brute.useful(one) & brute.useful(other)
    common = Book(tuple((name, many, tuple(n for n in ends if n in other.ends(name)),
                         tuple(step for step in steps if step in other.steps(name)))
                        for name, many, ends, steps in one.courses))
    first = ((one.main(), 0),)
    if first[0] not in both:
        return set()
    found = {first}
    level = [first]
    while level:
        level = [after for moment in level for move in brute.raw_moves(common, moment)
                 for after in [brute.behind(common, moment, move)]
                 if len(after) <= depth and all(stage in both for stage in after)]
        level = [moment for moment in dict.fromkeys(level) if moment not in found]
        found.update(level)
        if len(found) > MOST:
            return None
    return found


def random_pairs(seed, many):
    rng = random.Random(seed)
    return [(book, variant(rng, book, rng.choice([0, 0.05, 0.2]))) for book in brute.mixed_books(seed, many)]


class HoldersTest(unittest.TestCase):
    def test_small_rows(self):
        one = (("a", "b"), ("b",), ("c", "a"), ("d",), ("a",))
        self.assertEqual(holders(one, (("b",), ("a",))), (0, 0, 1))
        self.assertFalse(holds(one, (("b",), ("a",))))
        self.assertEqual(holders(one, (("x",), (), ("b",))), (1,) * 5)
        self.assertTrue(holds(one, (("x",), (), ("b",))))
        self.assertEqual((holders((), ()), holders(one, ()), holds((), ()), holds(one, ())), ((), (), True, False))

    def test_against_within(self):
        rng = random.Random(1)
        for _ in range(300):
            one, other = [tuple(tuple(rng.choice("ab") for _ in range(rng.randint(0, 4)))
                                for _ in range(rng.randint(0, 4))) for _ in range(2)]
            right = []
            for row in one:
                numbers = [number for number in range(len(other)) if quick_within(other[number], row)]
                if not numbers:
                    break
                right.append(numbers[0])
            self.assertEqual(holders(one, other), tuple(right))
            self.assertIs(holds(one, other), len(right) == len(one))

    def test_lists_of_least_endings(self):
        found = lists(ORDER, plain(ORDER))
        self.assertTrue(holds(found[("order", 0)], found[("order", 2)]))
        self.assertFalse(holds(found[("order", 2)], found[("order", 0)]))


class SwappedTest(unittest.TestCase):
    def test_swapped(self):
        new = course("pay", 2, (1,), do(0, "cash", 1))
        self.assertEqual(swapped(ORDER, new), Book((ORDER.courses[0], new)))
        self.assertEqual(swapped(ORDER, ORDER.courses[0]), ORDER)
        self.assertEqual(len(ORDER.courses[1][3]), 3)

    def test_errors(self):
        for value in [("nope", 1, (0,), ()), ("Order", 1, (0,), ()), (None, 1, (0,), ()), ((), 1), ()] + ODD_VALUES:
            if not (isinstance(value, tuple) and value and value[0] in ("order", "pay")):
                with self.assertRaises(Refused) as caught:
                    swapped(ORDER, value)
                self.assertEqual(caught.exception.word, "name")
        for value, at in ((("pay", 0, (), ()), 1), (("order", 1, (1,), ()), 0), (("pay",), 1), (("pay", 1, (0,), (), 1), 1),
                          (("pay", 2, (0,), (call(0, "nope", 1),)), 1), (("order", 21, (), ()), 0),
                          (("pay", 2, (0,), [do(0, "a", 1)]), 1),
                          (("pay", 14, (0,), tuple(do(0, word, 1) for word in "abcdefghijklm")), 1)):
            with self.assertRaises(InvalidBook) as caught:
                swapped(ORDER, value)
            self.assertEqual(caught.exception.at, at, value)


class SharedTest(unittest.TestCase):
    def test_books_that_do_not_match(self):
        others = [NEST, Book(ORDER.courses[::-1]), Book(ORDER.courses[:1] + (course("pay", 5, (1,)),)),
                  Book((course("order", 4, (3,), do(0, "a", 3)),)), Book((ORDER.courses[0], course("pays", 4, (1,)))
                  + (course("pay", 1, (0,)),))]
        for other in others:
            for function, more in ((meet, ()), (reached, ()), (is_shared, ((),)), (is_shared, (None,))):
                with self.assertRaises(Refused) as caught:
                    function(ORDER, other, *more)
                self.assertEqual(caught.exception.word, "stages")

    def test_meets(self):
        one = Book((course("m", 3, (1, 2), do(0, "a", 1), do(0, "b", 2), call(1, "m", 2)),))
        other = Book((course("m", 3, (0, 2), call(1, "m", 2), do(0, "b", 1), do(0, "a", 1)),))
        self.assertEqual(meet(one, other), Book((course("m", 3, (2,), do(0, "a", 1), call(1, "m", 2)),)))
        self.assertEqual(meet(other, one), Book((course("m", 3, (2,), call(1, "m", 2), do(0, "a", 1)),)))
        for book, changed in random_pairs(3, 60):
            for (_, _, ends, steps), (name, _, _, _) in zip(meet(book, changed).courses, book.courses):
                self.assertEqual(ends, tuple(n for n in book.ends(name) if n in changed.ends(name)))
                self.assertEqual(steps, tuple(step for step in book.steps(name) if step in changed.steps(name)))

    def test_small_pairs(self):
        self.assertEqual(reached(ORDER, ORDER), {"order": (0, 1, 2, 3), "pay": (0, 1, 2, 3)})
        self.assertEqual(reached(DEAD, DEAD), {})
        self.assertFalse(is_shared(DEAD, DEAD, (("main", 0),)))
        # x can be ended in both books, but not by what they share: behind its call nothing is reached.
        one = book_of(read_courses("m: a (x) b\nx: c | d [e]"))
        apart = swapped(one, ("x", 4, (1, 2, 3), ((0, "do", "q", 1),)))
        self.assertEqual(reached(one, apart), {"m": (0, 1), "x": (0,)})
        self.assertTrue(is_shared(one, apart, (("x", 0), ("m", 2))))
        self.assertFalse(is_shared(one, apart, (("m", 2),)))
        self.assertFalse(is_shared(one, apart, ()))
        self.assertTrue(is_shared(one, one, ()))

    def test_against_moments(self):
        partly = 0
        for book, other in random_pairs(7, 240):
            moments = shared_moments(book, other, 7)
            if moments is None:
                continue
            lots = reached(book, other)
            self.assertEqual(list(lots), sorted(lots))
            for moment in moments:
                self.assertTrue(is_shared(book, other, moment))
            innermost = {moment[0] for moment in moments if moment}
            self.assertEqual(innermost, {(name, n) for name in lots for n in lots[name]})
            for lot in lots.values():
                self.assertEqual(lot, tuple(sorted(set(lot))))
            for moment in brute.reachable(book, 3, 200):
                if is_shared(book, other, moment):
                    self.assertIn(moment, moments)
                else:
                    self.assertNotIn(moment, moments)
                    partly += 1
        self.assertGreater(partly, 100)

    def test_any_values(self):
        for value in ODD_VALUES:
            self.assertIs(is_shared(ORDER, ORDER, value), value == () and isinstance(value, tuple))
            self.assertIs(is_shared(ORDER, ORDER, (value,)), False)
            self.assertIs(is_shared(ORDER, ORDER, (("pay", 0), value)), False)
        for moment, right in (((("pay", 0), ("order", 2)), True), ((("pay", 0),), False), ((("order", 2),), True),
                              ((("pay", 0), ("order", 1)), False), ((("order", 0), ("order", 2)), False),
                              ((("order", 4),), False), ((("pay", 0), ("pay", 0), ("order", 2)), False)):
            self.assertIs(is_shared(ORDER, ORDER, moment), right, moment)

    def test_books_at_the_limits(self):
        rng = random.Random(2)
        for _ in range(3):
            book = full_book(rng)
            other = variant(rng, book)
            lots = reached(book, other)
            self.assertTrue(is_shared(book, other, (("a", 0),)) or not lots)


if __name__ == "__main__":
    unittest.main()
