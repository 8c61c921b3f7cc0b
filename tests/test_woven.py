"""[105]: two books that run side by side, and the desks to which they owe."""

import itertools
import random
import unittest

import brute
from samples import ORDER
from stillowed.books import Book
from stillowed.dealings import desks_of, within_by
from stillowed.errors import NoEnding, Refused
from stillowed.texts import book_of, read_courses
from stillowed.woven import Clash, Woven, check_weave, owing_desks, weave
from tables import clear_tables
from test_verdicts import DEALING, dealt

OTHER = book_of(read_courses("work: {rest} pack (lift)\nlift: haul | haul tip"))
TO_MAIL = (("haul", "van"), ("pack", "mail"), ("rest", "desk"), ("tip", "mail"))
TO_VAN = (("haul", "van"), ("pack", "van"), ("rest", "desk"), ("tip", "mail"))


def renamed(book):
    """The book with other names of its deeds and the same courses."""
    return Book(tuple((name, many, ends, tuple((a, kind, word + "q" if kind == "do" else word, b)
                                               for a, kind, word, b in steps)) for name, many, ends, steps in book.courses))


def shuffles(u, v):
    """All shuffles of two rows."""
    found = set()
    for places in itertools.combinations(range(len(u) + len(v)), len(u)):
        first, second = iter(u), iter(v)
        found.add(tuple(next(first) if at in places else next(second) for at in range(len(u) + len(v))))
    return found


class OwingDesksTest(unittest.TestCase):
    def test_small_tables(self):
        self.assertEqual(list(owing_desks(dealt(ORDER, DEALING)).items()), [("desk", ("order", 0)), ("mail", ("order", 0))])
        self.assertEqual(list(owing_desks(dealt(OTHER, TO_MAIL)).items()), [("mail", ("lift", 2)), ("van", ("lift", 0))])
        self.assertEqual(list(owing_desks(dealt(OTHER, TO_VAN)).items()), [("mail", ("lift", 2)), ("van", ("lift", 0))])
        nothing = book_of(read_courses("m: [a]"))
        self.assertEqual(owing_desks(dealt(nothing, (("a", "z"),))), {})

    def test_random_tables(self):
        rng = random.Random(1051)
        for table in clear_tables(1051, 60):
            if table.view == {deed: (deed,) for deed in table.book.deeds()}:
                dealing = tuple((deed, rng.choice(("p", "q", "r"))) for deed in table.book.deeds())
                made = dealt(table.book, dealing)
                found = owing_desks(made)
                self.assertEqual(list(found), sorted(found))
                for desk in desks_of(dealing):
                    stages = [stage for stage in sorted(made.rows)
                              if any(dict(dealing)[deed] == desk for deed in made.rows[stage])]
                    self.assertEqual(found.get(desk), stages[0] if stages else None)


class WeaveTest(unittest.TestCase):
    def test_a_woven(self):
        one, other = dealt(ORDER, DEALING), dealt(OTHER, (("haul", "van"), ("pack", "van"), ("rest", "desk"), ("tip", "van")))
        found = weave(one, other)
        self.assertIsInstance(found, Woven)
        self.assertEqual((found.one, found.other), (one, other))
        self.assertEqual(list(found.owing.items()), [("desk", 0), ("mail", 0), ("van", 1)])
        self.assertEqual(found.parts((("pay", 2), ("order", 2)), (("work", 0),)),
                         (("desk", ("stamp",)), ("mail", ("send",)), ("van", ("pack", "haul"))))
        self.assertEqual(found.parts((), ()), (("desk", ()), ("mail", ()), ("van", ())))
        turned = weave(other, one)
        self.assertEqual(turned.owing, {"desk": 1, "mail": 1, "van": 0})
        self.assertEqual(turned.parts((("lift", 0),), (("order", 0),)),
                         (("desk", ("take", "card")), ("mail", ("send",)), ("van", ("haul",))))
        for moments, stage in ((((("x", 0),), (("y", 0),)), ("x", 0)), ((((("order", 0),)), (("y", 0),)), ("y", 0))):
            with self.assertRaises(NoEnding) as caught:
                found.parts(*moments)
            self.assertEqual(caught.exception.stage, stage)

    def test_a_clash(self):
        one, other = dealt(ORDER, DEALING), dealt(OTHER, TO_MAIL)
        found = weave(one, other)
        self.assertEqual(vars(found), {"desk": "mail", "first": ("order", 0), "second": ("lift", 2),
                                       "one": ("send", "tip"), "other": ("tip", "send")})
        # The first desk owed to in both is named.
        found = weave(one, dealt(OTHER, (("haul", "desk"), ("pack", "mail"), ("rest", "z"), ("tip", "mail"))))
        self.assertEqual(vars(found), {"desk": "desk", "first": ("order", 0), "second": ("lift", 0),
                                       "one": ("take", "card", "haul"), "other": ("haul", "take", "card")})

    def test_books_with_a_deed_in_common(self):
        one = dealt(ORDER, DEALING)
        other = book_of(read_courses("m: [send]"))
        for function in (lambda: weave(one, dealt(other, (("send", "z"),))),
                         lambda: check_weave(one, dealt(other, (("send", "z"),)), None),
                         lambda: weave(one, one)):
            with self.assertRaises(Refused) as caught:
                function()
            self.assertEqual(caught.exception.word, "deeds")

    def test_random_tables_and_couples(self):
        rng = random.Random(1052)
        tables = [table for table in clear_tables(1052, 50) if all(row == (deed,) for deed, row in table.view.items())]
        seen = [0, 0]
        couples = [0, 0]
        for _ in range(400):
            first, second = rng.choice(tables).book, renamed(rng.choice(tables).book)
            if set(first.deeds()) & set(second.deeds()):
                continue
            dealings = [tuple((deed, rng.choice(names)) for deed in book.deeds())
                        for book, names in ((first, "pq"), (second, "qr"))]
            one, other = dealt(first, dealings[0]), dealt(second, dealings[1])
            found = weave(one, other)
            self.assertTrue(check_weave(one, other, found))
            clashes = [desk for desk in sorted(owing_desks(one)) if desk in owing_desks(other)]
            seen[not clashes] += 1
            if clashes:
                self.assertEqual(found.desk, clashes[0])
                stages = ((found.first, found.second),)
            else:
                self.assertEqual(found.owing, {**{desk: 0 for desk in owing_desks(one)}, **{desk: 1 for desk in owing_desks(other)}})
                stages = [(rng.choice(sorted(one.rows)), rng.choice(sorted(other.rows))) for _ in range(2)]
            for left, right in stages:
                owes = self.couple_owes(one, other, left, right)
                if owes is not None:
                    self.assertEqual(owes, not clashes)
                    couples[owes] += 1
        self.assertGreater(min(seen), 30)
        self.assertGreater(min(couples), 20)

    def couple_owes(self, one, other, left, right):
        """Whether a couple of stages owes a row, by all endings of few deeds; None if these are too few or many."""
        firsts = [row for row in brute.endings(one.book, 4)[left]]
        seconds = [row for row in brute.endings(other.book, 4)[right]]
        if len(one.rows[left]) > 3 or len(other.rows[right]) > 3 or len(firsts) * len(seconds) > 30:
            return None
        every = {row for u in firsts for v in seconds for row in shuffles(u, v)}
        dealing = tuple(sorted(one.dealing + other.dealing))
        best = shuffles(one.rows[left], other.rows[right])
        return any(all(within_by(dealing, row, ending) for ending in every) for row in best)


class CheckTest(unittest.TestCase):
    def setUp(self):
        self.one = dealt(ORDER, DEALING)
        self.other = dealt(OTHER, TO_MAIL)
        self.apart = dealt(OTHER, (("haul", "van"), ("pack", "van"), ("rest", "desk"), ("tip", "van")))

    def test_wovens(self):
        right = {"desk": 0, "mail": 0, "van": 1}
        for owing, wanted in ((right, True), ({"van": 1, "mail": 0, "desk": 0}, True), ({**right, "van": 0}, False),
                              ({**right, "desk": 1}, False), ({"desk": 0, "mail": 0}, False), ({}, False),
                              ({**right, "van": True}, False), ({**right, "desk": False}, False), (None, False),
                              ({**right, "van": None}, False), ({**right, "van": 1.0}, False), ([("desk", 0)], False)):
            self.assertIs(check_weave(self.one, self.apart, Woven(self.one, self.apart, owing)), wanted)
        # Where a desk is owed to in both books there is no Woven.
        for number in (0, 1):
            self.assertFalse(check_weave(self.one, self.other, Woven(self.one, self.other, {**right, "mail": number})))

    def test_clashes(self):
        right = {"desk": "mail", "first": ("order", 0), "second": ("lift", 2), "one": ("send", "tip"), "other": ("tip", "send")}
        self.assertTrue(check_weave(self.one, self.other, Clash(**right)))
        self.assertTrue(check_weave(self.one, self.other, Clash(**{**right, "first": ("order", 2)})))
        self.assertTrue(check_weave(self.one, self.other, Clash(
            "mail", ("order", 1), ("work", 0), ("send", "pack"), ("pack", "send"))))
        for name, values in (("desk", ("desk", "van", "none", None, ["mail"], 3)),
                             ("first", (("order", 3), ("pay", 0), ("order", 4), ("x", 0), (), ("order",), ([], 0), ("order", True))),
                             ("second", (("lift", 0), ("lift", 3), ("order", 0), ("work", 9), ({}, 1))),
                             ("one", (("tip", "send"), ("send",), (), None, ["send", "tip"])),
                             ("other", (("send", "tip"), ("tip",), (), None, "tip"))):
            for value in values:
                self.assertIs(check_weave(self.one, self.other, Clash(**{**right, name: value})), False, (name, value))
        self.assertFalse(check_weave(self.one, self.apart, Clash(**right)))

    def test_any_values(self):
        for value in brute.ODD_VALUES + [Woven, Clash, self.one]:
            self.assertIs(check_weave(self.one, self.other, value), False)
            self.assertIs(check_weave(self.one, self.apart, Woven(self.one, self.apart, value)), False)

    def test_books_that_owe_nothing(self):
        one, other = (dealt(book_of(read_courses(f"m: [{deed}]")), ((deed, "z"),)) for deed in "ab")
        self.assertEqual(weave(one, other).owing, {})
        self.assertTrue(check_weave(one, other, Woven(one, other, {})))
        self.assertEqual(weave(one, other).parts((("m", 0),), (("m", 1),)), (("z", ()),))


class ObjectsTest(unittest.TestCase):
    def test_attributes(self):
        owing = {"a": 0}
        made = Woven(1, 2, owing)
        owing.clear()
        self.assertEqual(vars(made), {"one": 1, "other": 2, "owing": {"a": 0}})
        self.assertEqual(vars(Clash(1, 2, 3, 4, 5)), {"desk": 1, "first": 2, "second": 3, "one": 4, "other": 5})


if __name__ == "__main__":
    unittest.main()
