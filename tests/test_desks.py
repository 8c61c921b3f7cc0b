"""[40], [41]: books judged by dealings, and verdicts checked."""

import random
import time
import unittest

import brute
import sound
from samples import DEAD, NEST, ORDER, TORN, call, course, do, full_book, one_course, tall
from stillowed.books import Book
from stillowed.dealings import desks_of, one_desk, own_desks, part, view_at, within_by
from stillowed.desks import check_verdict, is_clear_by, judge, looks_by
from stillowed.errors import InvalidDealing, NoEnding, Refused
from stillowed.lengths import chosen_rows, lengths, plain, ways
from stillowed.met import met
from stillowed.owed import OwedTable, TwoEndings, court
from stillowed.texts import book_of, read_courses
from stillowed.verdicts import DealtTable, DeskSplit, NeverTogether
from test_papers import table_with, two_with, without

SIZE = 5
# a and b in any order: clear by own desks, not by one desk.
SHUFFLED = book_of(read_courses("main: a b | b a"))
# Each desk owes something, but no ending has the least of both.
APART = book_of(read_courses("main: a a b | a b b"))


def random_dealing(rng, book, names="pqr"):
    return tuple((deed, rng.choice(names)) for deed in book.deeds())


def dealt_books(seed, many):
    """Pairs of a book whose start is useful and a dealing."""
    rng = random.Random(seed)
    found = []
    for book in brute.mixed_books(seed, many) + shuffled_books(rng, many // 4):
        if (book.main(), 0) in brute.useful(book):
            found.append((book, random_dealing(rng, book)))
    return found


def shuffled_books(rng, many):
    """Books with choices of lines with like deeds in several orders, and calls of others."""
    found = []
    for _ in range(many):
        texts = []
        for at, name in enumerate(["main", "x"]):
            row = [rng.choice("abcd") for _ in range(rng.randint(1, 3))]
            lines = []
            for _ in range(rng.randint(1, 3)):
                line = row + [rng.choice("abcd") for _ in range(rng.choice([0, 0, 1]))]
                rng.shuffle(line)
                if at == 0 and rng.random() < 0.5:
                    line.insert(rng.randint(0, len(line)), "(x)")
                lines.append(" ".join(line))
            texts.append(name + ": " + " | ".join(lines))
        found.append(book_of(read_courses("\n".join(texts))))
    return found


def fault(case, function, *told):
    with case.assertRaises((InvalidDealing, NoEnding, Refused)) as caught:
        function(*told)
    return type(caught.exception), list(vars(caught.exception).values())[0]


def changed(value, **told):
    """The object with other attributes."""
    made = {**vars(value), **told}
    return type(value)(**made)


class JudgeTest(unittest.TestCase):
    def test_small_books(self):
        verdict = judge(SHUFFLED, own_desks(SHUFFLED))
        self.assertIsInstance(verdict, DealtTable)
        self.assertEqual(verdict.rows[("main", 0)], ("a", "b"))
        self.assertEqual((verdict.book, verdict.dealing), (SHUFFLED, own_desks(SHUFFLED)))
        verdict = judge(SHUFFLED, one_desk(SHUFFLED))
        self.assertIsInstance(verdict, DeskSplit)
        self.assertEqual(verdict.desk, "one")
        self.assertEqual(vars(verdict.two), vars(court(SHUFFLED, plain(SHUFFLED))))
        verdict = judge(APART, own_desks(APART))
        self.assertIsInstance(verdict, NeverTogether)
        self.assertEqual((verdict.stage, verdict.trail, verdict.desk), (("main", 0), ((),), "a"))
        self.assertEqual((verdict.one, verdict.other), (("a", "a", "b"), ("a", "b", "b")))
        self.assertEqual([(desk, vars(table)) for desk, table in verdict.tables],
                         [(desk, vars(court(APART, view_at(own_desks(APART), desk)))) for desk in "ab"])
        self.assertEqual([is_clear_by(SHUFFLED, own_desks(SHUFFLED)), is_clear_by(SHUFFLED, one_desk(SHUFFLED)),
                          is_clear_by(APART, own_desks(APART))], [True, False, False])

    def test_the_first_desk_that_splits(self):
        book = book_of(read_courses("main: a b c d | b a d c"))
        for names, desk in (("ppqq", "p"), ("qqpp", "p"), ("pqqp", None), ("zzab", "z")):
            dealing = tuple(zip("abcd", names))
            verdict = judge(book, dealing)
            self.assertEqual(verdict.desk if isinstance(verdict, DeskSplit) else None, desk)

    def test_books_without_deeds(self):
        book = one_course(1, (0,))
        verdict = judge(book, ())
        self.assertEqual(vars(verdict), {"book": book, "dealing": (), "rows": {("main", 0): ()},
                                         "ways": {("main", 0): ("end",)}, "ranks": {("main", 0): 0}})
        self.assertTrue(check_verdict(book, (), verdict))

    def test_one_desk_is_as_court(self):
        for book, _ in dealt_books(401, 200):
            verdict = judge(book, one_desk(book))
            found = court(book, plain(book))
            self.assertEqual(isinstance(verdict, DealtTable), isinstance(found, OwedTable))
            if isinstance(found, OwedTable):
                self.assertEqual((verdict.rows, verdict.ways, verdict.ranks), (found.rows, found.ways, found.ranks))
            elif isinstance(verdict, DeskSplit):
                self.assertEqual(vars(verdict.two), vars(found))

    def test_random_books_and_dealings(self):
        seen = {DealtTable: 0, DeskSplit: 0, NeverTogether: 0}
        for book, dealing in dealt_books(402, 300):
            verdict = judge(book, dealing)
            seen[type(verdict)] += 1
            self.assertEqual(is_clear_by(book, dealing), isinstance(verdict, DealtTable))
            self.assertTrue(check_verdict(book, dealing, verdict))
            listed = brute.endings(book, SIZE)
            rows, stages = chosen_rows(book, plain(book)), list(met(book))
            if isinstance(verdict, DealtTable):
                self.assertEqual(verdict.rows, {stage: rows[stage] for stage in stages})
                self.assertEqual(verdict.ways, {stage: ways(book, plain(book))[stage] for stage in stages})
                for stage in stages:
                    self.assertTrue(all(within_by(dealing, rows[stage], other) for other in listed[stage]))
                self.assertIsNone(looks_by(book, dealing, verdict.rows))
            elif isinstance(verdict, DeskSplit):
                split = [desk for desk in desks_of(dealing) if isinstance(court(book, view_at(dealing, desk)), TwoEndings)]
                self.assertEqual(verdict.desk, split[0])
            else:
                tables = dict(verdict.tables)
                self.assertEqual(list(tables), list(desks_of(dealing)))
                fits = [(stage, desk) for stage in stages for desk in desks_of(dealing)
                        if len(part(dealing, desk, rows[stage])) > len(tables[desk].rows[stage])]
                self.assertEqual((verdict.stage, verdict.desk), fits[0])
                self.assertTrue(sound.is_trail(book, verdict.stage, verdict.trail))
                self.assertEqual(verdict.one, rows[verdict.stage])
                self.assertEqual(part(dealing, verdict.desk, verdict.other), tables[verdict.desk].rows[verdict.stage])
                # No ending lies within all: it would be shorter than the shortest one.
                self.assertLess(sum(len(table.rows[verdict.stage]) for table in tables.values()), len(verdict.one))
                if len(verdict.other) <= SIZE:
                    self.assertIn(verdict.other, listed[verdict.stage])
                owed = [row for row in listed[verdict.stage]
                        if all(within_by(dealing, row, other) for other in listed[verdict.stage])]
                self.assertTrue(not owed or len(verdict.other) > SIZE)
        self.assertGreater(min(seen.values()), 15)

    def test_errors_in_order(self):
        dead = Book((course("m", 2, (), do(0, "a", 1)),))
        for function in (judge, is_clear_by, lambda book, dealing: check_verdict(book, dealing, None)):
            for value in (None, [], (("a", "p"), ("b", "p")), (("a", "P"),), (("b", "p"),), (), ("a",)):
                self.assertEqual(fault(self, function, dead, value)[0], InvalidDealing)
            self.assertEqual(fault(self, function, dead, (("a", "p"), 3)), (InvalidDealing, 1))
            self.assertEqual(fault(self, function, dead, (("a", "p"),)), (NoEnding, ("m", 0)))
        huge = tall((8, 8, 8, 8, 7, 7, 7, 7))
        for function in (judge, is_clear_by):
            self.assertEqual(fault(self, function, huge, own_desks(huge)), (Refused, "long"))
        # Long rows of stages that are not met count, too, ahead of a desk that splits.
        torn = Book((course("main", 3, (1, 2), do(0, "p", 1), do(0, "q", 2)),) + tall((8, 8, 8, 8, 7, 7, 7)).courses)
        self.assertEqual(fault(self, judge, torn, one_desk(torn)), (Refused, "long"))

    def test_long_rows_along_the_ways_of_a_desk(self):
        # Plainly z leaves each course at once; without the deeds of its desk it takes very many x.
        sizes = (("a", 20), ("b", 20), ("c", 10))
        made = []
        for at, (name, many) in enumerate(sizes):
            onward = [do(n, "x", n + 1) if name == "c" else call(n, sizes[at + 1][0], n + 1) for n in range(many - 1)]
            made.append(course(name, many, (many - 1,), *onward, *[do(n, "z", many - 1) for n in range(many - 1)]))
        book = Book(tuple(made))
        dealing = (("x", "p"), ("z", "q"))
        self.assertLess(sum(len(row) for row in chosen_rows(book, plain(book)).values()), 100)
        self.assertTrue(all(isinstance(court(book, view_at(dealing, desk)), OwedTable) for desk in "pq"))
        for function in (judge, is_clear_by):
            self.assertEqual(fault(self, function, book, dealing), (Refused, "long"))
        tables = tuple((desk, court(book, view_at(dealing, desk))) for desk in "pq")
        value = NeverTogether(("a", 0), ((),), tables, "q", ("z",), ())
        self.assertIs(check_verdict(book, dealing, value), False)


class LooksByTest(unittest.TestCase):
    def test_small_books(self):
        rows = {("main", 0): ("b", "a"), ("main", 1): ("b",), ("main", 2): (), ("main", 3): ("a",), ("main", 4): ()}
        self.assertIsNone(looks_by(SHUFFLED, own_desks(SHUFFLED), rows))
        self.assertEqual(looks_by(SHUFFLED, one_desk(SHUFFLED), rows), (("main", 0), 0))
        rows[("main", 2)] = ("a",)
        self.assertEqual(looks_by(SHUFFLED, own_desks(SHUFFLED), rows), (("main", 2), -1))
        rows[("main", 0)] = ("b", "a", "a")
        self.assertEqual(looks_by(SHUFFLED, own_desks(SHUFFLED), rows), (("main", 0), 0))
        self.assertIsNone(looks_by(SHUFFLED, own_desks(SHUFFLED), {}))

    def test_random_rows(self):
        rng = random.Random(403)
        seen = [0, 0]
        for book, dealing in dealt_books(403, 150):
            right = {stage: chosen_rows(book, plain(book))[stage] for stage in met(book)}
            for _ in range(3):
                rows = {stage: tuple(rng.choice(book.deeds()) for _ in range(rng.randint(0, 2)))
                        if book.deeds() and rng.random() < 0.1 else row for stage, row in right.items()}
                wanted = None
                for stage in sorted(rows):
                    fails = [-1] if brute.is_end(book, stage) and rows[stage] != () else []
                    for k in brute.leaving(book, stage):
                        if sound.has_keys(brute.parts(book, stage, k), rows):
                            if not within_by(dealing, rows[stage], sound.joined(book, plain(book), rows, stage, k)):
                                fails.append(k)
                    if fails and wanted is None:
                        wanted = (stage, fails[0])
                self.assertEqual(looks_by(book, dealing, rows), wanted)
                seen[wanted is None] += 1
        self.assertGreater(min(seen), 30)


class CheckTest(unittest.TestCase):
    def test_dealt_tables(self):
        dealing = own_desks(SHUFFLED)
        right = judge(SHUFFLED, dealing)
        first, last = ("main", 0), ("main", 2)
        for told, wanted in (
                ({}, True), ({"book": TORN}, False), ({"dealing": one_desk(SHUFFLED)}, False), ({"dealing": None}, False),
                ({"rows": without(right.rows, last)}, False), ({"ways": without(right.ways, last)}, False),
                ({"ranks": without(right.ranks, last)}, False), ({"rows": {**right.rows, first: ("b", "a")}}, False),
                ({"rows": {**right.rows, first: ("b", "a")}, "ways": {**right.ways, first: ("step", 1)}}, True),
                ({"ways": {**right.ways, first: ("step", 1)}}, False), ({"ways": {**right.ways, first: ("end",)}}, False),
                ({"ways": {**right.ways, first: ("step", -4)}}, False), ({"ways": {**right.ways, first: ("step", 7)}}, False),
                ({"rows": {**right.rows, first: ()}}, False), ({"rows": {**right.rows, last: ("a",)}}, False),
                ({"rows": {**right.rows, first: ("a", "a", "b")}}, False),
                ({"ranks": {**right.ranks, first: 9}}, True), ({"ranks": {**right.ranks, first: 1}}, False),
                ({"ranks": {key: rank - 1 for key, rank in right.ranks.items()}}, False),
                ({"ranks": {key: rank + 5 for key, rank in right.ranks.items()}}, True)):
            self.assertIs(check_verdict(SHUFFLED, dealing, changed(right, **told)), wanted, told)
        self.assertFalse(check_verdict(SHUFFLED, one_desk(SHUFFLED), changed(right, dealing=one_desk(SHUFFLED))))

    def test_dealt_tables_need_just_the_met_stages(self):
        book = Book((course("m", 2, (1,), do(0, "a", 1)), course("z", 1, (0,))))
        right = judge(book, own_desks(book))
        more = changed(right, rows={**right.rows, ("z", 0): ()}, ways={**right.ways, ("z", 0): ("end",)},
                       ranks={**right.ranks, ("z", 0): 0})
        self.assertIs(check_verdict(book, own_desks(book), right), True)
        self.assertIs(check_verdict(book, own_desks(book), more), False)

    def test_desk_splits(self):
        dealing = (("a", "p"), ("b", "p"), ("c", "q"), ("d", "q"))
        book = book_of(read_courses("main: a b c d | b a d c"))
        right = judge(book, dealing)
        self.assertEqual(right.desk, "p")
        other = DeskSplit("q", court(book, view_at(dealing, "q")))
        for value, wanted in ((right, True), (other, True), (changed(right, desk="q"), False), (changed(right, desk="z"), False),
                              (changed(right, two=other.two), False), (changed(right, two=court(NEST, plain(NEST))), False),
                              (changed(right, two=two_with(right.two, trail=None)), False),
                              (changed(right, two=two_with(right.two, one=right.two.other)), False),
                              (changed(right, two=two_with(right.two, ways={**right.two.ways, ("main", 0): ("step", -1)})), False),
                              (changed(right, two=two_with(right.two, lengths={})), False)):
            self.assertIs(check_verdict(book, dealing, value), wanted)

    def test_never_together(self):
        dealing = own_desks(APART)
        right = judge(APART, dealing)
        tables = dict(right.tables)
        view = view_at(dealing, "b")
        more = table_with(tables["a"], ranks={key: rank + 3 for key, rank in tables["a"].ranks.items()})
        for told, wanted in (
                ({}, True), ({"stage": ("main", 1)}, False), ({"stage": ("main", 3)}, False), ({"trail": ()}, False),
                ({"trail": None}, False), ({"trail": ((0,),)}, False), ({"tables": ()}, False), ({"tables": right.tables[:1]}, False),
                ({"tables": right.tables[::-1]}, False), ({"tables": right.tables + right.tables[1:]}, False),
                ({"tables": (("a", tables["b"]), ("b", tables["a"]))}, False), ({"tables": (("a", more), right.tables[1])}, True),
                ({"tables": (("a", table_with(tables["a"], ranks={})), right.tables[1])}, False),
                ({"tables": (("a", table_with(tables["a"], view={"a": ("a",), "b": (), "c": ()})), right.tables[1])}, False),
                ({"tables": (("a", table_with(tables["a"], book=SHUFFLED)), right.tables[1])}, False),
                ({"tables": (("a", court(APART, {"a": (), "b": ()})), right.tables[1])}, False),
                ({"desk": "b"}, False), ({"desk": "z"}, False), ({"one": ("a", "b", "b")}, False), ({"one": ("a", "a")}, False),
                ({"other": ("a", "a", "b")}, False), ({"other": ("a",)}, False), ({"one": right.other, "other": right.one}, False)):
            self.assertIs(check_verdict(APART, dealing, changed(right, **told)), wanted, told)
        self.assertIsInstance(court(APART, view), OwedTable)

    def test_any_of_the_stages_and_desks_that_fit(self):
        # In x the two desks never come together, and so they do not where x is called.
        book = book_of(read_courses("main: h (x)\nx: a a b | a b b"))
        dealing = (("a", "p"), ("b", "q"), ("h", "r"))
        right = judge(book, dealing)
        self.assertEqual(right.stage, ("main", 0))
        tables, rows = dict(right.tables), chosen_rows(book, plain(book))
        others = sound.rows_along(book, plain(book), tables["p"].ways)
        for stage, trail in ((("main", 1), ((0,),)), (("x", 0), ((0, 1), ()))):
            value = changed(right, stage=stage, trail=trail, one=rows[stage], other=others[stage])
            self.assertTrue(check_verdict(book, dealing, value))
            self.assertFalse(check_verdict(book, dealing, changed(value, trail=((),))))
            self.assertFalse(check_verdict(book, dealing, changed(value, desk="q")))

    def test_any_values(self):
        for value in brute.ODD_VALUES + [DealtTable, court(ORDER, plain(ORDER)), court(TORN, plain(TORN))]:
            for book in (ORDER, TORN, SHUFFLED):
                self.assertIs(check_verdict(book, own_desks(book), value), False)

    def test_verdicts_on_other_books_and_dealings(self):
        rng = random.Random(404)
        pairs = dealt_books(404, 60)
        for book, dealing in pairs:
            verdict = judge(book, dealing)
            other, deal = rng.choice(pairs)
            if isinstance(verdict, DealtTable):
                self.assertEqual(check_verdict(other, deal, verdict), (other, deal) == (book, dealing))
            coarse = one_desk(book, desk="p")
            if isinstance(verdict, NeverTogether) and coarse != dealing:
                self.assertFalse(check_verdict(book, coarse, verdict))

    def test_what_is_refused_as_long_is_not_sound(self):
        torn = Book((course("main", 3, (1, 2), do(0, "p", 1), do(0, "q", 2)),) + tall((8, 8, 8, 8, 7, 7, 7)).courses)
        dealing = (("p", "one"), ("q", "one"), ("x", "one"))
        view = plain(torn)
        two = TwoEndings(("main", 0), ((),), lengths(torn, view), ways(torn, view), ("p",), ("q",))
        self.assertIs(check_verdict(torn, dealing, DeskSplit("one", two)), False)
        # By another dealing the long rows are hidden.
        split = (("p", "one"), ("q", "one"), ("x", "two"))
        two = court(torn, view_at(split, "one"))
        self.assertIs(check_verdict(torn, split, DeskSplit("one", two)), True)
        # The chosen rows are too long, and so are the rows along the ways of a desk.
        self.assertIs(check_verdict(torn, own_desks(torn), NeverTogether(("main", 0), ((),), (), "p", ("p",), ("q",))), False)
        one = court(torn, view_at(own_desks(torn), "p"))
        tables = tuple((desk, court(torn, view_at(own_desks(torn), desk))) for desk in "pq")
        self.assertIsInstance(one, OwedTable)
        self.assertIs(check_verdict(torn, own_desks(torn), NeverTogether(("main", 0), ((),), tables, "p", ("p",), ("q",))), False)


class LimitsTest(unittest.TestCase):
    def test_at_the_limits(self):
        began = time.time()
        rng = random.Random(405)
        for _ in range(6):
            book = full_book(rng)
            for dealing in (own_desks(book), random_dealing(rng, book), one_desk(book)):
                self.assertTrue(check_verdict(book, dealing, judge(book, dealing)))
        self.assertLess(time.time() - began, 10)


if __name__ == "__main__":
    unittest.main()
