"""[29]: whether tables and two endings are sound."""

import random
import time
import unittest

import brute
import sound
from samples import DEAD, NEST, ORDER, TORN, call, course, do, full_book, one_course, tall
from stillowed.books import Book
from stillowed.errors import Refused
from stillowed.lengths import lengths, plain, ways
from stillowed.owed import OwedTable, TwoEndings, court
from stillowed.papers import check_table, check_two
from tables import clear_tables, looped_tables, wider_tables


def table_with(table, **told):
    """The table with other attributes; the names are those of the attributes."""
    made = {"book": table.book, "view": table.view, "rows": table.rows, "ways": table.ways, "ranks": table.ranks, **told}
    return OwedTable(made["book"], made["view"], made["rows"], made["ways"], made["ranks"])


def two_with(two, **told):
    made = {"stage": two.stage, "trail": two.trail, "lengths": two.lengths, "ways": two.ways, "one": two.one,
            "other": two.other, **told}
    return TwoEndings(*made.values())


def without(table, key):
    return {other: table[other] for other in table if other != key}


def torn_books(seed, many):
    """Pairs (book, view) that are not clear."""
    rng = random.Random(seed)
    found = []
    for book in brute.mixed_books(seed, many):
        if (book.main(), 0) in brute.useful(book):
            for view in (plain(book), brute.random_view(rng, book, 2)):
                if isinstance(court(book, view), TwoEndings):
                    found.append((book, view))
    return found


class TablesTest(unittest.TestCase):
    def test_tables_of_court(self):
        for table in clear_tables(291, 150) + looped_tables(291, 20) + wider_tables(291, 20):
            self.assertIs(check_table(table), True)
            self.assertTrue(sound.is_sound_table(table))

    def test_each_condition(self):
        table = court(NEST, plain(NEST))
        first, last = ("main", 0), ("main", 4)
        for told in ({"rows": without(table.rows, last)}, {"ways": without(table.ways, last)}, {"ranks": without(table.ranks, last)},
                     {"rows": {}, "ways": {}, "ranks": {}}, {"rows": {**table.rows, ("main", 3): ("b",)}},
                     {"rows": {**table.rows, first: ()}}, {"rows": {**table.rows, first: ("c", "c")}},
                     {"ways": {**table.ways, first: ("end",)}}, {"ways": {**table.ways, first: ("step", 0)}},
                     {"ways": {**table.ways, first: ("step", 2)}}, {"ways": {**table.ways, first: ("step", 99)}},
                     {"ways": {**table.ways, first: ("step", -3)}}, {"ranks": {**table.ranks, first: 0}},
                     {"ranks": {**table.ranks, last: 1}}, {"view": {**table.view, "b": ("x",)}}, {"view": {**table.view, "a": ("c",)},
                                                                                                  "rows": table.rows, "ranks": {}}):
            self.assertIs(check_table(table_with(table, **told)), False, told)
        for told in ({"ranks": {**table.ranks, ("main", 1): 100}}, {"ranks": {key: rank - 50 for key, rank in table.ranks.items()}},
                     {"view": {**table.view, "zz": ("q",)}}, {"view": {**table.view, "a": ()}}):
            self.assertIs(check_table(table_with(table, **told)), True, told)
        # Without one stage in all three dicts a step leads from keys to a useful stage that is none.
        for stage in table.rows:
            fewer = {name: without(getattr(table, name), stage) for name in ("rows", "ways", "ranks")}
            self.assertFalse(check_table(table_with(table, **fewer)))

    def test_stages_that_are_not_useful_need_not_be_keys(self):
        book = one_course(3, (1,), do(0, "a", 1), do(0, "b", 2), do(2, "b", 2), call(2, "main", 2))
        table = court(book, plain(book))
        self.assertEqual(sorted(table.rows), [("main", 0), ("main", 1)])
        self.assertTrue(check_table(table))
        # As keys they would have no row.
        more = table_with(table, rows={**table.rows, ("main", 2): ("a",)}, ways={**table.ways, ("main", 2): ("step", 2)},
                          ranks={**table.ranks, ("main", 2): 9})
        self.assertEqual(check_table(more), sound.is_sound_table(more))
        self.assertFalse(check_table(more))

    def test_keys_that_are_not_met(self):
        book = Book((course("m", 2, (1,), do(0, "a", 1)), course("z", 2, (1,), do(0, "b", 1))))
        table = court(book, plain(book))
        more = table_with(table, rows={**table.rows, ("z", 1): ()}, ways={**table.ways, ("z", 1): ("end",)},
                          ranks={**table.ranks, ("z", 1): 0})
        self.assertTrue(check_table(more))
        more = table_with(more, rows={**more.rows, ("z", 0): ("b",)}, ways={**more.ways, ("z", 0): ("step", 0)},
                          ranks={**more.ranks, ("z", 0): 1})
        self.assertTrue(check_table(more))
        alone = table_with(table, rows={("z", 1): ()}, ways={("z", 1): ("end",)}, ranks={("z", 1): 0})
        self.assertFalse(check_table(alone))

    def test_dead_books(self):
        for told in ({}, {("main", 0): ("a",)}):
            self.assertFalse(check_table(OwedTable(DEAD, plain(DEAD), told, {key: ("step", 0) for key in told},
                                                   {key: 0 for key in told})))

    def test_changed_tables(self):
        rng = random.Random(292)
        seen = [0, 0]
        for table in clear_tables(292, 150) + wider_tables(292, 30):
            for _ in range(6):
                changed = self.changed(rng, table)
                wanted = sound.is_sound_table(changed)
                self.assertIs(check_table(changed), wanted)
                seen[wanted] += 1
        self.assertGreater(min(seen), 50)

    def changed(self, rng, table):
        stage = rng.choice(sorted(table.rows))
        word = rng.choice(["row", "way", "rank", "key", "keys", "more", "view"])
        if word == "row":
            row = list(table.rows[stage])
            row.insert(rng.randint(0, len(row)), rng.choice("abx")) if rng.random() < 0.5 or not row else row.pop(0)
            return table_with(table, rows={**table.rows, stage: tuple(row)})
        if word == "way":
            way = rng.choice([("end",)] + [("step", k) for k in range(-1, 7)])
            return table_with(table, ways={**table.ways, stage: way})
        if word == "rank":
            return table_with(table, ranks={**table.ranks, stage: table.ranks[stage] + rng.choice([-1, 1, 2])})
        if word == "key":
            name = rng.choice(["rows", "ways", "ranks"])
            return table_with(table, **{name: without(getattr(table, name), stage)})
        if word == "keys":
            return table_with(table, **{name: without(getattr(table, name), stage) for name in ("rows", "ways", "ranks")})
        if word == "more":
            other = rng.choice(table.book.stages())
            way = rng.choice([("end",)] + [("step", k) for k in table.book.steps_from(other)])
            row = () if way == ("end",) else rng.choice([(), ("a",), ("b",)])
            return table_with(table, rows={**table.rows, other: row}, ways={**table.ways, other: way},
                              ranks={**table.ranks, other: 50})
        return table_with(table, view=brute.random_view(rng, table.book, 1))


class TwoTest(unittest.TestCase):
    def test_two_endings_of_court(self):
        books = torn_books(293, 500)
        self.assertGreater(len(books), 50)
        for book, view in books:
            two = court(book, view)
            self.assertIs(check_two(book, view, two), True)
            self.assertTrue(sound.is_sound_two(book, view, two))

    def test_each_condition(self):
        view = plain(TORN)
        two = court(TORN, view)
        first = ("main", 0)
        self.assertEqual((two.stage, two.trail, two.one, two.other), (first, ((),), ("card",), ("cash", "stamp")))
        for told in ({"stage": ("main", 1)}, {"trail": ()}, {"trail": ((0,),)}, {"trail": None}, {"lengths": without(two.lengths, first)},
                     {"lengths": {**two.lengths, first: 2}}, {"lengths": {**two.lengths, ("main", 2): 0}}, {"lengths": {}, "ways": {}},
                     {"ways": {**two.ways, first: ("step", 1)}}, {"ways": {**two.ways, first: ("end",)}},
                     {"ways": {**two.ways, first: ("step", -3)}}, {"ways": without(two.ways, ("main", 3))},
                     {"one": ("cash", "stamp")}, {"one": ()}, {"one": ("cash",)}, {"other": ("card",)}, {"other": ("cash",)},
                     {"other": ("stamp", "cash")}, {"one": two.other, "other": two.one}):
            self.assertIs(check_two(TORN, view, two_with(two, **told)), False, told)
        for other_view in ({"card": ("x",), "cash": ("x",), "stamp": ("s",)}, {"card": (), "cash": ("c",), "stamp": ("s",)}):
            self.assertFalse(check_two(TORN, other_view, two))
        self.assertFalse(check_two(ORDER, plain(ORDER), two))
        self.assertTrue(check_two(TORN, {**view, "zz": ()}, two))

    def test_any_value_as_a_trail(self):
        two = court(TORN, plain(TORN))
        for value in brute.ODD_VALUES + [((True,),), ((0.0,),), [()], ([],), ((0,), ()), ((-1,),)]:
            self.assertIs(check_two(TORN, plain(TORN), two_with(two, trail=value)), value == ((),))

    def test_other_sound_ones(self):
        # Another trail, another way of the same length, another step.
        book = Book((course("m", 4, (3,), do(0, "h", 1), do(0, "g", 1), call(1, "x", 3), do(2, "h", 3)),
                     course("x", 4, (1, 2, 3), do(0, "a", 1), do(0, "b", 2), do(0, "c", 3))))
        view = {**plain(book), "h": (), "g": ()}
        two = court(book, view)
        self.assertEqual((two.stage, two.one, two.other), (("x", 0), ("a",), ("b",)))
        self.assertTrue(check_two(book, view, two_with(two, trail=((1, 2), ()))))
        self.assertTrue(check_two(book, view, two_with(two, other=("c",))))
        chosen = {**two.ways, ("x", 0): ("step", 2)}
        self.assertTrue(check_two(book, view, two_with(two, ways=chosen, one=("c",), other=("a",))))
        self.assertFalse(check_two(book, view, two_with(two, ways=chosen)))
        self.assertFalse(check_two(book, view, two_with(two, trail=((2,), ()))))

    def test_changed_two_endings(self):
        rng = random.Random(294)
        seen = [0, 0]
        for book, view in torn_books(294, 400):
            two = court(book, view)
            for _ in range(5):
                changed = self.changed(rng, book, two)
                wanted = sound.is_sound_two(book, view, changed)
                self.assertIs(check_two(book, view, changed), wanted)
                seen[wanted] += 1
        self.assertGreater(min(seen), 10)

    def changed(self, rng, book, two):
        key = rng.choice(sorted(two.lengths))
        word = rng.choice(["stage", "trail", "length", "way", "one", "other", "keys", "key"])
        if word == "stage":
            return two_with(two, stage=rng.choice(book.stages()))
        if word == "trail":
            return two_with(two, trail=tuple(tuple(rng.randint(0, 3) for _ in range(rng.randint(0, 2)))
                                             for _ in range(rng.randint(0, 2))))
        if word == "length":
            return two_with(two, lengths={**two.lengths, key: two.lengths[key] + rng.choice([-1, 1])})
        if word == "way":
            return two_with(two, ways={**two.ways, key: rng.choice([("end",)] + [("step", k) for k in range(-1, 6)])})
        if word == "keys":
            return two_with(two, lengths=without(two.lengths, key), ways=without(two.ways, key))
        if word == "key":
            return two_with(two, ways=without(two.ways, key))
        row = tuple(rng.choice("abc") for _ in range(rng.randint(0, 3)))
        return two_with(two, **{word: row})

    def test_long_rows_only_where_the_conditions_ahead_are_met(self):
        # The rows along the ways have more than 20,000 deeds together.
        huge = tall((8, 8, 8, 8, 7, 7, 7))
        book = Book((course("main", 3, (1, 2), do(0, "p", 1), do(0, "q", 2)),) + huge.courses)
        view = plain(book)
        two = TwoEndings(("main", 0), ((),), lengths(book, view), ways(book, view), ("p",), ("q",))
        with self.assertRaises(Refused) as caught:
            check_two(book, view, two)
        self.assertEqual(caught.exception.word, "long")
        for told in ({"trail": ()}, {"stage": ("main", 1)}, {"stage": ("a", 0)}, {"ways": {}}, {"trail": ((0,),)},
                     {"lengths": {**two.lengths, ("main", 0): 2}}):
            self.assertIs(check_two(book, view, two_with(two, **told)), False, told)
        # The conditions on the rows themselves come later.
        with self.assertRaises(Refused):
            check_two(book, view, two_with(two, one=("q",)))
        self.assertTrue(check_two(book, {**view, "x": ()}, TwoEndings(
            ("main", 0), ((),), lengths(book, {**view, "x": ()}), ways(book, {**view, "x": ()}), ("p",), ("q",))))

    def test_dead_books(self):
        two = TwoEndings(("main", 1), ((),), lengths(DEAD, plain(DEAD)), ways(DEAD, plain(DEAD)), ("a",), ())
        self.assertIs(check_two(DEAD, plain(DEAD), two), False)


class LimitsTest(unittest.TestCase):
    def test_at_the_limits(self):
        began = time.time()
        rng = random.Random(295)
        for _ in range(20):
            book = full_book(rng)
            for view in (plain(book), {deed: () for deed in book.deeds()}):
                verdict = court(book, view)
                self.assertTrue(check_table(verdict) if isinstance(verdict, OwedTable) else check_two(book, view, verdict))
        self.assertLess(time.time() - began, 10)


if __name__ == "__main__":
    unittest.main()
