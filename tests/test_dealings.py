"""[38], [39]: dealings."""

import itertools
import unittest

import brute
from samples import ORDER, do, one_course
from stillowed.dealings import (blocks_of, check_dealing, common_finer, dealing_of, deeds_at, desk_of, desks_of,
                                is_finer, one_desk, own_desks, part, parts, same_by, view_at, within_by)
from stillowed.errors import InvalidDealing, InvalidRow

ABC = one_course(1, (0,), do(0, "c", 0), do(0, "a", 0), do(0, "b", 0))
DEALING = (("a", "x"), ("b", "y"), ("c", "x"))


def at_of(test, error, function, *told):
    with test.assertRaises(error) as caught:
        function(*told)
    return caught.exception.at


def all_dealings(deeds, desks):
    return [tuple(zip(deeds, given)) for given in itertools.product(desks, repeat=len(deeds))]


class CheckTest(unittest.TestCase):
    def test_dealings(self):
        for dealing in (DEALING, one_desk(ABC), own_desks(ABC), (("a", "a"), ("b", "a"), ("c", "abcde"))):
            self.assertIsNone(check_dealing(ABC, dealing))
        self.assertIsNone(check_dealing(one_course(1, ()), ()))

    def test_no_tuple(self):
        for value in brute.ODD_VALUES + [list(DEALING), dict(DEALING)]:
            if not isinstance(value, tuple):
                self.assertEqual(at_of(self, InvalidDealing, check_dealing, ABC, value), -1)

    def test_each_wrong_place(self):
        wrong = [value for value in brute.ODD_VALUES] + [("d", "x"), ("c", "A"), ("c", ""), ("c", "abcdef"), ("c", None),
                                                         ("c", "x", "x"), ("c",), ["c", "x"], (None, "x"), ("", "x"),
                                                         ("c", ["x"]), (["c"], "x"), ("x", "c"), ("aa", "x")]
        for value in wrong:
            for at in range(3):
                for behind in (DEALING[at + 1:], (None,), ()):
                    broken = DEALING[:at] + (value,) + behind
                    self.assertEqual(at_of(self, InvalidDealing, check_dealing, ABC, broken), at, value)
            self.assertEqual(at_of(self, InvalidDealing, check_dealing, ABC, DEALING + (value,)), 3)
            self.assertEqual(at_of(self, InvalidDealing, check_dealing, one_course(1, ()), (value,)), 0)

    def test_too_few_and_too_many(self):
        for at in range(3):
            self.assertEqual(at_of(self, InvalidDealing, check_dealing, ABC, DEALING[:at]), at)
            self.assertEqual(at_of(self, InvalidDealing, check_dealing, ABC, DEALING[:at] + DEALING[at + 1:]), at)
        self.assertEqual(at_of(self, InvalidDealing, check_dealing, ABC, DEALING + (("d", "x"), ("e", "x"))), 3)
        self.assertEqual(at_of(self, InvalidDealing, check_dealing, ABC, DEALING[::-1]), 0)
        self.assertEqual(at_of(self, InvalidDealing, check_dealing, ABC, DEALING[:1] + DEALING), 1)


class PartsTest(unittest.TestCase):
    def test_made_dealings(self):
        self.assertEqual(one_desk(ABC), (("a", "one"), ("b", "one"), ("c", "one")))
        self.assertEqual(one_desk(ABC, desk="q"), (("a", "q"), ("b", "q"), ("c", "q")))
        self.assertEqual(own_desks(ABC), (("a", "a"), ("b", "b"), ("c", "c")))
        self.assertEqual(own_desks(ORDER), tuple((deed, deed) for deed in ("card", "send", "stamp", "take")))
        with self.assertRaises(TypeError):
            one_desk(ABC, "q")

    def test_desks_and_deeds(self):
        self.assertEqual(desks_of(DEALING), ("x", "y"))
        self.assertEqual(desks_of((("a", "y"), ("b", "x"), ("c", "y"))), ("x", "y"))
        self.assertEqual(desks_of(()), ())
        self.assertEqual((deeds_at(DEALING, "x"), deeds_at(DEALING, "y"), deeds_at(DEALING, "a")), (("a", "c"), ("b",), ()))
        self.assertEqual([desk_of(DEALING, deed) for deed in ("a", "b", "c", "x", "d")], ["x", "y", "x", None, None])

    def test_parts(self):
        row = tuple("cabbac")
        self.assertEqual(part(DEALING, "x", row), tuple("caac"))
        self.assertEqual(part(DEALING, "y", row), ("b", "b"))
        self.assertEqual(part(DEALING, "z", row), ())
        self.assertEqual(part(DEALING, "x", ()), ())
        self.assertEqual(parts(DEALING, row), (("x", tuple("caac")), ("y", ("b", "b"))))
        self.assertEqual(parts(DEALING, ()), (("x", ()), ("y", ())))
        self.assertEqual(parts((("a", "y"), ("b", "x")), ("a",)), (("x", ()), ("y", ("a",))))

    def test_within_and_alike(self):
        rows = [row for many in range(4) for row in itertools.product("abc", repeat=many)]
        for dealing in (DEALING, one_desk(ABC), own_desks(ABC)):
            for u in rows[::3]:
                for v in rows[::2]:
                    pairs = [(tuple(d for d in u if dict(dealing)[d] == desk), tuple(d for d in v if dict(dealing)[d] == desk))
                             for desk in set(dict(dealing).values())]
                    self.assertIs(within_by(dealing, u, v), all(brute.quick_within(x, y) for x, y in pairs))
                    self.assertIs(same_by(dealing, u, v), all(x == y for x, y in pairs))
        self.assertTrue(within_by(DEALING, ("b", "a"), ("a", "c", "b")))
        self.assertTrue(same_by(DEALING, ("b", "a"), ("a", "b")))
        self.assertFalse(same_by(DEALING, ("c", "a"), ("a", "c")))

    def test_deeds_that_the_dealing_does_not_have(self):
        for row, at in ((("x",), 0), (("a", "x"), 1), (("a", "b", "q", "q"), 2), (("d", "e"), 0)):
            self.assertEqual(at_of(self, InvalidRow, part, DEALING, "x", row), at)
            self.assertEqual(at_of(self, InvalidRow, part, DEALING, "none", row), at)
            self.assertEqual(at_of(self, InvalidRow, parts, DEALING, row), at)
            for function in (within_by, same_by):
                self.assertEqual(at_of(self, InvalidRow, function, DEALING, row, ("a",)), at)
                self.assertEqual(at_of(self, InvalidRow, function, DEALING, ("a",), row), at)
                self.assertEqual(at_of(self, InvalidRow, function, DEALING, row, ("z",)), at)
                self.assertEqual(at_of(self, InvalidRow, function, DEALING, ("a", "a", "a", "z"), row), 3)

    def test_views(self):
        self.assertEqual(view_at(DEALING, "x"), {"a": ("a",), "b": (), "c": ("c",)})
        self.assertEqual(view_at(DEALING, "q"), {"a": (), "b": (), "c": ()})
        view_at(DEALING, "x").clear()
        self.assertEqual(view_at(DEALING, "y"), {"a": (), "b": ("b",), "c": ()})


class FinerTest(unittest.TestCase):
    def test_blocks(self):
        self.assertEqual(blocks_of(DEALING), (("a", "c"), ("b",)))
        self.assertEqual(blocks_of((("a", "z"), ("b", "y"), ("c", "x"))), (("a",), ("b",), ("c",)))
        self.assertEqual(blocks_of((("a", "y"), ("b", "x"), ("c", "x"), ("d", "y"))), (("a", "d"), ("b", "c")))
        self.assertEqual(blocks_of(()), ())
        self.assertEqual(dealing_of((("b",), ("a", "c"))), (("a", "a"), ("b", "b"), ("c", "a")))
        self.assertEqual(dealing_of((("b", "d"), ("a",))), (("a", "a"), ("b", "b"), ("d", "b")))
        self.assertEqual(dealing_of(()), ())
        for dealing in all_dealings("abcd", "xyz"):
            self.assertEqual(blocks_of(dealing_of(blocks_of(dealing))), blocks_of(dealing))

    def test_finer_and_coarsest(self):
        dealings = all_dealings("abc", "xyz")
        for one in dealings:
            for other in dealings:
                finer = all(dict(other)[d] == dict(other)[e] for d in "abc" for e in "abc" if dict(one)[d] == dict(one)[e])
                self.assertIs(is_finer(one, other), finer)
                both = common_finer(one, other)
                self.assertTrue(is_finer(both, one) and is_finer(both, other))
                self.assertEqual(both, dealing_of(blocks_of(both)))
                self.assertEqual(both, common_finer(other, one))
                for third in dealings[::5]:
                    if is_finer(third, one) and is_finer(third, other):
                        self.assertTrue(is_finer(third, both))

    def test_unlike_deeds(self):
        for one, other, at in ((DEALING, DEALING[:2], 2), (DEALING[:2], DEALING, 2), ((), DEALING, 0), (DEALING, (), 0),
                               (DEALING, DEALING[:1] + (("d", "x"),), 1), (DEALING, (("b", "x"),) + DEALING[1:], 0)):
            self.assertEqual(at_of(self, InvalidDealing, is_finer, one, other), at)
            self.assertEqual(at_of(self, InvalidDealing, common_finer, one, other), at)
        self.assertTrue(is_finer((), ()))
        self.assertEqual(common_finer((), ()), ())


if __name__ == "__main__":
    unittest.main()
