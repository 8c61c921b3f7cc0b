"""[89], [90]: makings."""

import itertools
import random
import time
import unittest

import brute
from brute import quick_within
from stillowed.errors import Refused
from stillowed.lengths import plain
from stillowed.makings import check_couple, couple, is_exact, made_row, needs, own_deeds, unmade
from stillowed.owed import OwedTable, court

EXACT = {"a": ("x", "y"), "b": ("y", "z", "y"), "c": ("q",)}
INEXACT = {"a": ("x", "y"), "b": ("x", "x"), "c": ("y", "z")}


def random_making(rng, deeds=3, longest=3, words="xyz"):
    names = "abcdefghijkl"[:rng.randint(1, deeds)]
    return {name: tuple(rng.choice(words) for _ in range(rng.randint(0, longest))) for name in names}


def made(making, row):
    return sum((making[deed] for deed in row), ())


def rows_over(deeds, size):
    for many in range(size + 1):
        yield from itertools.product(sorted(deeds), repeat=many)


class ExactTest(unittest.TestCase):
    def test_small_makings(self):
        self.assertEqual(made_row(EXACT, ("b", "a", "b")), ("y", "z", "y", "x", "y", "y", "z", "y"))
        self.assertEqual(made_row(EXACT, ()), ())
        self.assertEqual(own_deeds(EXACT), {"a": ("x",), "b": ("z",), "c": ("q",)})
        self.assertEqual(list(own_deeds({"c": ("x", "w", "x"), "a": ("q",)}).items()), [("a", ("q",)), ("c", ("w", "x"))])
        self.assertTrue(is_exact(EXACT))
        self.assertIsNone(couple(EXACT))
        self.assertEqual(own_deeds(INEXACT), {"a": (), "b": (), "c": ("z",)})
        self.assertFalse(is_exact(INEXACT))
        self.assertEqual(couple(INEXACT), (("a",), ("b", "c")))
        self.assertTrue(check_couple(INEXACT, *couple(INEXACT)))
        self.assertEqual(couple({"a": ()}), (("a",), ()))
        self.assertEqual(couple({"a": ("x",), "b": ("x",)}), (("a",), ("b",)))
        self.assertEqual(couple({"b": ("x",), "a": ("x", "w"), "c": ("x",)}), (("b",), ("a",)))

    def test_against_slow_answers(self):
        rng = random.Random(1)
        inexact = 0
        for _ in range(400):
            making = random_making(rng)
            own = {deed: tuple(sorted({one for one in making[deed] if not any(
                one in making[other] for other in making if other != deed)})) for deed in sorted(making)}
            self.assertEqual(list(own_deeds(making).items()), list(own.items()))
            self.assertIs(is_exact(making), () not in own.values())
            found = couple(making)
            if found is None:
                self.assertTrue(is_exact(making))
                for u in rows_over(making, 2):
                    for v in rows_over(making, 3):
                        if quick_within(made(making, u), made(making, v)):
                            self.assertTrue(quick_within(u, v))
                        self.assertFalse(check_couple(making, u, v))
                continue
            inexact += 1
            u, v = found
            deed = [one for one in own if not own[one]][0]
            self.assertEqual(u, (deed,))
            self.assertTrue(check_couple(making, u, v))
            others = [one for one in making if one != deed]
            for row in rows_over(others, len(v)):
                if quick_within(making[deed], made(making, row)):
                    self.assertEqual(v, row)
                    break
        self.assertGreater(inexact, 100)

    def test_couples_checked(self):
        self.assertFalse(check_couple(INEXACT, ("a",), ("a", "b")))
        self.assertFalse(check_couple(INEXACT, ("a",), ("c", "b")))
        self.assertTrue(check_couple(INEXACT, ("a", "a"), ("b", "c", "b", "c")))
        self.assertFalse(check_couple(INEXACT, (), ("b",)))

    def test_clear_by_an_exact_view(self):
        rng = random.Random(2)
        checked = 0
        for book in brute.mixed_books(91, 300):
            if (book.main(), 0) not in brute.useful(book):
                continue
            view = {deed: (deed,) + tuple(rng.choice("xy") for _ in range(rng.randint(0, 1))) for deed in book.deeds()}
            self.assertTrue(not view or is_exact(view))
            if isinstance(court(book, view), OwedTable):
                checked += 1
                self.assertIsInstance(court(book, plain(book)), OwedTable)
        self.assertGreater(checked, 50)

    def test_long_couples(self):
        making = {"a": ("x",) * 12, "b": ("x",), "c": ("x", "x"), "d": ("x",) * 5}
        self.assertEqual(couple(making), (("a",), ("c", "d", "d")))
        making = {"l": tuple("abcdefghijkl")}
        making.update({deed: (deed,) for deed in "abcdefghijk"})
        self.assertEqual(couple(making), (("a",), ("l",)))


class NeedsTest(unittest.TestCase):
    def test_small_rows(self):
        self.assertEqual(needs(EXACT, ("x", "y")), (("a",),))
        self.assertEqual(needs(EXACT, ("y",)), (("a",), ("b",)))
        self.assertEqual(needs(EXACT, ()), ((),))
        self.assertEqual(needs(EXACT, ("w",)), ())
        self.assertEqual(needs(EXACT, ("w", "x")), ())
        self.assertEqual(needs(INEXACT, ("x", "y")), (("a",), ("b", "c")))
        for making in (EXACT, INEXACT):
            self.assertIs(is_exact(making), all(needs(making, making[deed]) == ((deed,),) for deed in making))

    def test_against_slow_answers(self):
        rng = random.Random(3)
        for _ in range(250):
            making = random_making(rng)
            row = tuple(rng.choice("xyz") for _ in range(rng.randint(0, 4)))
            right = []
            for one in rows_over(making, 4):
                if quick_within(row, made(making, one)) and not any(quick_within(other, one) for other in right):
                    right.append(one)
            self.assertEqual(needs(making, row), tuple(right))

    def test_refused_rows(self):
        one = {"a": ("x",)}
        self.assertEqual(needs(one, ("x",) * 24), (("a",) * 24,))
        with self.assertRaises(Refused) as caught:
            needs(one, ("x",) * 25)
        self.assertEqual(caught.exception.word, "long")
        words = "abcdefghijkl"
        same = {word: ("x",) for word in words[:6]}
        self.assertEqual(len(needs(same, ("x",))), 6)
        self.assertEqual(len(needs(same, ("x", "x"))), 36)
        for row in (("x",) * 3, ("x",) * 24):
            with self.assertRaises(Refused) as caught:
                needs(same, row)
            self.assertEqual(caught.exception.word, "wide")
        # What is left without the first deeds counts, although the whole row has no need at all.
        with self.assertRaises(Refused):
            needs(same, ("w", "x", "x", "x"))
        self.assertEqual(needs(same, ("x", "x", "x", "w")), ())

    def test_40_needs_and_more(self):
        words = "abcdefghijkl"
        # 4 and 10 rows for the two parts of the row, and then one more by a deed that has both.
        making = {**{word: ("x",) for word in words[:4]}, **{word: ("y",) for word in words[4:8]}}
        self.assertEqual(len(needs(making, ("x", "y"))), 16)
        making = {**{word: ("x", "w") for word in words[:5]}, **{word: ("y",) for word in words[5:12]}}
        self.assertEqual(len(needs(making, ("x", "y"))), 35)
        # 36 by two deeds each, and as many as are told by one deed alone.
        for alone, right in ((4, True), (5, False)):
            making = {**{word: ("x",) for word in words[:6]}, **{word: ("x", "x") for word in words[6:6 + alone]}}
            if right:
                self.assertEqual(len(needs(making, ("x", "x"))), 40)
            else:
                with self.assertRaises(Refused) as caught:
                    needs(making, ("x", "x"))
                self.assertEqual(caught.exception.word, "wide")
        begun = time.time()
        for seed in range(40):
            rng = random.Random(seed)
            making = {word: tuple(rng.choice("uvwxyz") for _ in range(rng.randint(1, 12))) for word in words}
            try:
                self.assertLessEqual(len(needs(making, tuple(rng.choice("uvwxyz") for _ in range(24)))), 40)
            except Refused as error:
                self.assertEqual(error.word, "wide")
        self.assertLess(time.time() - begun, 10)


class UnmadeTest(unittest.TestCase):
    def test_small_rows(self):
        self.assertEqual(unmade(EXACT, ("y", "z", "y", "x", "y")), ("b", "a"))
        self.assertEqual(unmade(EXACT, ()), ())
        self.assertIsNone(unmade(EXACT, ("y",)))
        self.assertIsNone(unmade(EXACT, ("x", "y", "x")))
        self.assertIsNone(unmade(EXACT, ("w",)))
        # The longer beginning is not always right.
        making = {"a": ("x",), "b": ("x", "y"), "c": ("z", "x"), "d": ("z", "x", "x", "w")}
        self.assertFalse(is_exact(making))
        for row in (("x",), ()):
            with self.assertRaises(Refused) as caught:
                unmade(making, row)
            self.assertEqual(caught.exception.word, "inexact")

    def test_against_made_rows(self):
        rng = random.Random(4)
        checked = 0
        while checked < 200:
            making = random_making(rng, 4, 4, "uvwxyz")
            if not is_exact(making):
                continue
            checked += 1
            row = tuple(rng.choice(sorted(making)) for _ in range(rng.randint(0, 30)))
            self.assertEqual(unmade(making, made(making, row)), row)
            other = made(making, row)[1:]
            found = unmade(making, other)
            self.assertTrue(found is None or made(making, found) == other)
        long_row = tuple(rng.choice("abc") for _ in range(400))
        self.assertEqual(unmade(EXACT, made(EXACT, long_row)), long_row)


if __name__ == "__main__":
    unittest.main()
