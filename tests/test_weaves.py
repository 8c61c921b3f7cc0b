"""[45]: weaves of owed rows, and whether all of them can be done."""

import itertools
import random
import time
import unittest

import brute
import sound
from samples import NEST, ORDER, call, chain_of_rank, course, do, full_book, one_course
from stillowed.books import Book
from stillowed.dealings import desks_of, one_desk, own_desks, parts
from stillowed.desks import judge
from stillowed.errors import NoEnding, Refused
from stillowed.moments import way_to
from stillowed.orders import wrong_at
from stillowed.texts import book_of, read_courses
from stillowed.trails import trail_moment
from stillowed.verdicts import DealtTable
from stillowed.weaves import Free, NotFree, check_weaves, is_weave, outside, run_of_weave, starters, weaves
from test_desks import SHUFFLED, changed, dealt_books
from test_tight import steps_of_run


def tables_of(seed, many):
    found = []
    for book, dealing in dealt_books(seed, many):
        table = judge(book, dealing)
        if isinstance(table, DealtTable):
            found.append(table)
    return found


def calling_tables(seed, many):
    """Tables of books with calls between shuffled deeds."""
    rng = random.Random(seed)
    found = []
    while len(found) < many:
        x = rng.choice(["a b | b a", "a", "a | a b a", "-", "b", "[a b]", "a (y) | (y) a", "(y) b"])
        y = rng.choice(["c", "b c | c b", "-", "c c", "a"])
        lines = " | ".join(rng.choice(["(x) c", "c (x)", "c d", "d c", "(x) (y)", "(y) (x)", "d (x) c", "c (x) d"])
                           for _ in range(rng.randint(1, 3)))
        book = book_of(read_courses(f"main: {lines}\nx: {x}\ny: {y}"))
        table = judge(book, tuple((deed, rng.choice("pqrs")) for deed in book.deeds()))
        if isinstance(table, DealtTable):
            found.append(table)
    return found


def all_weaves(table, row):
    """All rows alike to a row."""
    return {other for other in itertools.permutations(row) if parts(table.dealing, other) == parts(table.dealing, row)}


def is_free(table, depth):
    """Whether all weaves of the moments of at most so many stages are endings; None if there are too many."""
    listed = brute.endings(table.book, 6)
    for moment in sound.moments(table.book, depth):
        row = table.owed(moment)
        if len(row) > 5:
            continue
        rows = {()}
        for stage in moment:
            rows = {one + other for one in rows for other in listed[stage] if len(one) + len(other) <= 6}
        if not all_weaves(table, row) <= rows:
            return False
    return True


def slow_starters(table):
    """The desks that can go on at each stage, by growing."""
    book, desks = table.book, dict(table.dealing)
    view = {deed: (deed,) for deed in book.deeds()}
    found = {stage: set() for stage in table.rows}
    while True:
        before = {stage: set(found[stage]) for stage in found}
        for stage in found:
            for k in brute.leaving(book, stage):
                onto = brute.parts(book, stage, k)
                if not sound.has_keys(onto, found):
                    continue
                row = sound.joined(book, view, table.rows, stage, k)
                if parts(table.dealing, row) != parts(table.dealing, table.rows[stage]):
                    continue
                step = book.steps(stage[0])[k]
                if step[1] == "do":
                    found[stage].add(desks[step[2]])
                else:
                    found[stage] |= before[onto[0]] | (before[onto[1]] if table.rows[onto[0]] == () else set())
        if found == before:
            return {stage: tuple(sorted(found[stage])) for stage in sorted(found)}


def slow_outside(table):
    book, desks = table.book, dict(table.dealing)
    found = {stage[0]: set() for stage in table.rows}
    for _ in range(10):
        for stage in table.rows:
            for k in brute.leaving(book, stage):
                onto = brute.parts(book, stage, k)
                if len(onto) == 2 and sound.has_keys(onto, table.rows):
                    found[onto[0][0]] |= {desks[deed] for deed in table.rows[onto[1]]} | found[stage[0]]
    return {name: tuple(sorted(found[name])) for name in sorted(found)}


class WeaveTest(unittest.TestCase):
    def test_is_weave(self):
        table = judge(SHUFFLED, own_desks(SHUFFLED))
        first = (("main", 0),)
        self.assertEqual([is_weave(table, first, row) for row in (("a", "b"), ("b", "a"), ("a",), (), ("a", "a", "b"))],
                         [True, True, False, False, False])
        nest = judge(NEST, own_desks(NEST))
        moment = (("main", 1), ("main", 2))
        self.assertEqual(nest.owed(moment), ("c", "b", "b"))
        self.assertTrue(is_weave(nest, moment, ("b", "c", "b")))
        self.assertTrue(is_weave(nest, (), ()))
        self.assertFalse(is_weave(nest, (), ("a",)))
        with self.assertRaises(NoEnding) as caught:
            is_weave(nest, (("main", 1), ("x", 0)), ())
        self.assertEqual(caught.exception.stage, ("x", 0))

    def test_starters_and_outside(self):
        table = judge(SHUFFLED, own_desks(SHUFFLED))
        self.assertEqual(list(starters(table).items()), [(("main", 0), ("a", "b")), (("main", 1), ("b",)), (("main", 2), ()),
                                                         (("main", 3), ("a",)), (("main", 4), ())])
        self.assertEqual(outside(table), {"main": ()})
        nest = judge(NEST, own_desks(NEST))
        self.assertEqual(outside(nest), {"main": ("b",)})
        self.assertEqual(starters(nest)[("main", 1)], ("c",))
        # By a call of a course with an empty row the next stage counts, too.
        book = book_of(read_courses("main: (x) b\nx: [a]"))
        table = judge(book, own_desks(book))
        self.assertEqual(starters(table)[("main", 0)], ("b",))
        self.assertEqual(outside(table), {"main": (), "x": ("b",)})

    def test_random_tables(self):
        for table in tables_of(451, 200) + calling_tables(452, 40):
            self.assertEqual(list(starters(table).items()), list(slow_starters(table).items()))
            self.assertEqual(list(outside(table).items()), list(slow_outside(table).items()))


class WeavesTest(unittest.TestCase):
    def test_small_books(self):
        table = judge(SHUFFLED, own_desks(SHUFFLED))
        found = weaves(table)
        self.assertIsInstance(found, Free)
        self.assertEqual((found.table, found.outer), (table, {"main": ()}))
        self.assertEqual([(desk, step) for desk, step, _ in found.starts[("main", 0)]], [("a", 0), ("b", 1)])
        self.assertEqual(found.starts[("main", 2)], ())
        line = book_of(read_courses("main: a b"))
        found = weaves(judge(line, own_desks(line)))
        self.assertIsInstance(found, NotFree)
        self.assertEqual((found.trail, found.pile, found.weave), (((),), (("main", 0),), ("b", "a")))
        self.assertIsInstance(weaves(judge(line, one_desk(line))), Free)
        # The desk outside is not owed to at the stages of x.
        book = book_of(read_courses("main: (x) b\nx: a"))
        found = weaves(judge(book, own_desks(book)))
        self.assertIsInstance(found, NotFree)
        self.assertEqual(found.weave[0], "b")
        # It is, but cannot go on.
        book = book_of(read_courses("main: (x) b\nx: a b"))
        self.assertIsInstance(weaves(judge(book, own_desks(book))), NotFree)
        book = book_of(read_courses("main: (x) b\nx: a b | b a"))
        self.assertIsInstance(weaves(judge(book, own_desks(book))), NotFree)

    def test_a_desk_that_is_outside_at_a_greater_depth(self):
        # y does not owe to the desk of d, which only the stage behind the call of x owes to.
        book = book_of(read_courses("main: e (x) d\nx: (y)\ny: c"))
        table = judge(book, (("c", "p"), ("d", "q"), ("e", "p")))
        found = weaves(table)
        self.assertIsInstance(found, NotFree)
        self.assertEqual(found.weave[0], "d")
        self.assertEqual(trail_moment(book, found.trail), found.pile)
        self.assertTrue(check_weaves(table, found))

    def test_all_weaves_are_endings_exactly_if_free(self):
        seen = {Free: 0, NotFree: 0}
        for table in tables_of(453, 150) + calling_tables(454, 60):
            found = weaves(table)
            seen[type(found)] += 1
            self.assertIs(check_weaves(table, found), True)
            if isinstance(found, Free):
                self.assertTrue(is_free(table, 3))
                self.assertEqual(found.outer, outside(table))
                self.assertEqual(list(found.starts), sorted(table.rows))
            else:
                self.assertEqual(trail_moment(table.book, found.trail), found.pile)
                self.assertTrue(is_weave(table, found.pile, found.weave))
                self.assertIsNotNone(wrong_at(table.book, found.pile, found.weave))
                self.assertNotEqual(table.rows[found.pile[0]], ())
                self.assertNotIn(dict(table.dealing)[found.weave[0]], starters(table)[found.pile[0]])
        self.assertGreater(min(seen.values()), 30)


class RunTest(unittest.TestCase):
    def test_small_books(self):
        found = weaves(judge(SHUFFLED, own_desks(SHUFFLED)))
        first = (("main", 0),)
        self.assertEqual(run_of_weave(found, first, ("b", "a")), (("do", 1), ("do", 3), ("leave",)))
        self.assertEqual(run_of_weave(found, first, ("a", "b")), (("do", 0), ("do", 2), ("leave",)))
        self.assertIsNone(run_of_weave(found, first, ("a",)))
        self.assertEqual(run_of_weave(found, (), ()), ())
        self.assertIsNone(run_of_weave(found, (), ("a",)))

    def test_all_weaves_of_free_tables(self):
        runs = 0
        for table in tables_of(455, 120) + calling_tables(456, 60):
            found = weaves(table)
            if not isinstance(found, Free):
                continue
            for moment in [()] + sound.moments(table.book, 3)[:30]:
                row = table.owed(moment)
                if len(row) <= 5:
                    for other in sorted(all_weaves(table, row)):
                        _, deeds, last = steps_of_run(table.book, moment, run_of_weave(found, moment, other))
                        self.assertEqual((deeds, last), (other, ()))
                        runs += 1
                    for wrong in (row + row, row[1:], row + tuple(table.book.deeds()[:1])):
                        self.assertEqual(run_of_weave(found, moment, wrong) is None, not is_weave(table, moment, wrong))
        self.assertGreater(runs, 400)

    def test_the_way_is_followed_where_nothing_is_owed(self):
        book = one_course(3, (1, 2), call(0, "main", 2), do(1, "a", 0), call(2, "main", 1))
        book = Book((book.courses[0][:2] + ((0, 1, 2),) + book.courses[0][3:],))
        found = weaves(judge(book, own_desks(book)))
        self.assertEqual(run_of_weave(found, (("main", 0),), ()), (("leave",),))

    def test_20_000_moves_and_beyond(self):
        seen = [0, 0]
        for rank in (10000, 12000, 16000, 18000, 20000):
            # The moves do no deed: each x of the chain is a call of a course that ends at once.
            book = quiet(chain_of_rank(rank))
            table = judge(book, ())
            found = weaves(table)
            length = table_moves(table)
            seen[length <= 20000] += 1
            if length <= 20000:
                self.assertEqual(len(run_of_weave(found, ((book.main(), 0),), ())), length)
            else:
                with self.assertRaises(Refused) as caught:
                    run_of_weave(found, ((book.main(), 0),), ())
                self.assertEqual(caught.exception.word, "long")
        self.assertGreater(min(seen), 0)
        book = one_course(2, (1,), do(0, "a", 1))
        found = weaves(judge(book, own_desks(book)))
        self.assertEqual(len(run_of_weave(found, (("main", 1),) * 20000, ())), 20000)
        for row in ((), ("a",)):
            moment = (("main", 1),) * 20001 if not row else (("main", 1),) * 19999 + (("main", 0),)
            with self.assertRaises(Refused) as caught:
                run_of_weave(found, moment, row)
            self.assertEqual(caught.exception.word, "long")
        # What is no weave is none, however long.
        self.assertIsNone(run_of_weave(found, (("main", 1),) * 20001, ("a",)))


def quiet(book):
    """The book in which each deed is a call of a course that ends at once."""
    made = [(name, many, ends, tuple((a, "call", "z" if kind == "do" else word, b) for a, kind, word, b in steps))
            for name, many, ends, steps in book.courses]
    return Book(tuple(made) + (course("z", 1, (0,)),))


def table_moves(table):
    """How many moves the ways of the start make."""
    found = {}
    while len(found) < len(table.ways):
        for stage, way in table.ways.items():
            if way == ("end",):
                found[stage] = 1
            elif sound.has_keys(brute.parts(table.book, stage, way[1]), found):
                found[stage] = 1 + sum(found[part] for part in brute.parts(table.book, stage, way[1]))
    return found[(table.book.main(), 0)]


class CheckTest(unittest.TestCase):
    def setUp(self):
        self.free_table = judge(SHUFFLED, own_desks(SHUFFLED))
        self.free = weaves(self.free_table)

    def test_frees(self):
        right, first = self.free, ("main", 0)
        starts = right.starts
        for told, wanted in (
                ({}, True), ({"table": None}, True), ({"outer": {}}, False), ({"outer": {"main": ("a",)}}, False),
                ({"outer": {"main": (), "x": ()}}, False), ({"outer": None}, False), ({"outer": {"main": ("z",)}}, False),
                ({"starts": {**starts, first: starts[first][:1]}}, False), ({"starts": {**starts, first: starts[first][::-1]}}, False),
                ({"starts": {**starts, first: ()}}, False), ({"starts": {**starts, ("main", 2): starts[first]}}, False),
                ({"starts": {key: starts[key] for key in starts if key != first}}, False), ({"starts": {}}, False),
                ({"starts": {**starts, ("main", 9): ()}}, False), ({"starts": None}, False),
                ({"starts": {**starts, first: (("a", 0, 99), ("b", 1, 0))}}, True),
                ({"starts": {**starts, first: (("a", 0, -1), ("b", 1, 0))}}, False),
                ({"starts": {**starts, first: (("a", 2, 0), ("b", 1, 0))}}, False),
                ({"starts": {**starts, first: (("a", 1, 0), ("b", 1, 0))}}, False),
                ({"starts": {**starts, first: (("a", -4, 0), ("b", 1, 0))}}, False),
                ({"starts": {**starts, first: (("a", 77, 0), ("b", 1, 0))}}, False),
                ({"starts": {**starts, first: (("a", 0, 0), ("a", 0, 0), ("b", 1, 0))}}, False)):
            self.assertIs(check_weaves(self.free_table, changed(right, **told)), wanted, told)

    def test_starts_by_calls(self):
        # main goes on by the first stages of x and y, and, where y owes nothing, by the stage behind its call.
        book = book_of(read_courses("main: (y) (x)\nx: a\ny: [h]"))
        table = judge(book, (("a", "p"), ("h", "p")))
        right = weaves(table)
        self.assertIsInstance(right, Free)
        first, second, inner = ("main", 0), ("main", 1), ("x", 0)
        rank = {stage: right.starts[stage][0][2] for stage in (first, second, inner)}
        self.assertTrue(rank[inner] < rank[second] < rank[first])
        for stage, start, wanted in ((first, ("p", 0, rank[second] + 1), True), (first, ("p", 0, rank[second]), False),
                                     (second, ("p", 1, rank[inner]), False), (inner, ("p", 0, 10 ** 20), False),
                                     (inner, ("p", 0, 0), True), (second, ("p", 0, 50), False)):
            self.assertIs(check_weaves(table, changed(right, starts={**right.starts, stage: (start,)})), wanted, (stage, start))
        self.assertEqual(right.outer, {"main": (), "x": (), "y": ("p",)})
        for outer, wanted in (({"main": ("p",), "x": ("p",), "y": ("p",)}, True), ({"main": (), "x": ("p",), "y": ("p",)}, True),
                              ({"main": ("p",), "x": (), "y": ("p",)}, False), ({"main": (), "x": (), "y": ()}, False),
                              ({"main": (), "x": (), "y": ("p", "p")}, False), ({"main": (), "x": (), "y": ("q",)}, False),
                              ({"main": (), "y": ("p",)}, False), ({"main": (), "x": (), "y": ("p",), "z": ()}, False)):
            self.assertIs(check_weaves(table, changed(right, outer=outer)), wanted, outer)

    def test_more_desks_have_to_be_owed_to(self):
        # A desk more is allowed where no stage owes anything, and where all stages that do owe to it.
        book = book_of(read_courses("main: [h] | g g\nx: h"))
        table = judge(book, (("g", "q"), ("h", "p")))
        right = weaves(table)
        self.assertIsInstance(right, Free)
        self.assertFalse(check_weaves(table, changed(right, outer={"main": ("p",)})))
        self.assertTrue(check_weaves(table, changed(right, outer={"main": ("q",)})))
        nothing = book_of(read_courses("main: [g]"))
        table = judge(nothing, (("g", "q"),))
        self.assertTrue(check_weaves(table, changed(weaves(table), outer={"main": ("q",)})))

    def test_steps_that_are_not_tight(self):
        book = book_of(read_courses("main: a | a a"))
        table = judge(book, own_desks(book))
        right = weaves(table)
        first = ("main", 0)
        self.assertEqual(right.starts[first], (("a", 0, 0),))
        self.assertFalse(check_weaves(table, changed(right, starts={**right.starts, first: (("a", 1, 0),)})))

    def test_not_frees(self):
        book = book_of(read_courses("main: g a b | g g a b"))
        table = judge(book, own_desks(book))
        right = weaves(table)
        self.assertIsInstance(right, NotFree)
        for trail, pile, weave, wanted in (
                (((),), (("main", 0),), ("a", "g", "b"), True), (((),), (("main", 0),), ("b", "g", "a"), True),
                (((),), (("main", 0),), ("g", "b", "a"), False), (((0,),), (("main", 1),), ("b", "a"), True),
                (((0,),), (("main", 1),), ("a", "b"), False), (((),), (("main", 1),), ("b", "a"), False),
                (((0,),), (("main", 0),), ("b", "g", "a"), False), ((), (("main", 0),), ("a", "g", "b"), False),
                (None, (("main", 0),), ("a", "g", "b"), False), (((),), (("main", 0),), (), False),
                (((),), (("main", 0),), ("a", "b"), False), (((),), (("main", 0),), ("a", "g", "b", "b"), False),
                (((),), (("main", 0),), ("zz", "g", "b"), False), (((0, 2, 3),), (("main", 3),), (), False),
                (((1, 4),), (("main", 5),), ("b", "a"), True), (((1,),), (("main", 4),), ("a", "g", "b"), True)):
            self.assertIs(check_weaves(table, NotFree(trail, pile, weave)), wanted, (trail, pile, weave))

    def test_an_innermost_stage_that_owes_nothing(self):
        # The first deed of the weave is of a desk that cannot go on there, but the course has just to be left.
        book = book_of(read_courses("main: (x) b c\nx: [a]"))
        table = judge(book, own_desks(book))
        self.assertEqual(table.rows[("x", 0)], ())
        self.assertFalse(check_weaves(table, NotFree(((0,), ()), (("x", 0), ("main", 1)), ("c", "b"))))
        self.assertTrue(check_weaves(table, NotFree(((0,),), (("main", 1),), ("c", "b"))))

    def test_any_values(self):
        for value in brute.ODD_VALUES + [Free, NotFree, self.free_table]:
            self.assertIs(check_weaves(self.free_table, value), False)
            self.assertIs(check_weaves(self.free_table, NotFree(value, (("main", 0),), ("a", "b"))), False)
            self.assertIs(check_weaves(self.free_table, Free(self.free_table, value, self.free.outer)), False)
            self.assertIs(check_weaves(self.free_table, Free(self.free_table, self.free.starts, value)), False)

    def test_changed_frees(self):
        rng = random.Random(457)
        seen = [0, 0]
        for table in tables_of(458, 120) + calling_tables(459, 60):
            found = weaves(table)
            if isinstance(found, Free):
                for _ in range(6):
                    stage = rng.choice(sorted(found.starts))
                    told = tuple((desk, rng.choice([k, rng.randint(0, 5)]), max(0, rank + rng.choice([-1, 0, 0, 1])))
                                 for desk, k, rank in found.starts[stage])
                    starts = {**found.starts, stage: told}
                    wanted = all(self.is_start(table, starts, stage, start) for stage in starts for start in starts[stage])
                    self.assertIs(check_weaves(table, changed(found, starts=starts)), wanted)
                    seen[wanted] += 1
        self.assertGreater(min(seen), 50)

    def is_start(self, table, starts, stage, start):
        desk, k, rank = start
        book = table.book
        if k not in brute.leaving(book, stage) or not sound.has_keys(brute.parts(book, stage, k), table.rows):
            return False
        row = sound.joined(book, {deed: (deed,) for deed in book.deeds()}, table.rows, stage, k)
        if parts(table.dealing, row) != parts(table.dealing, table.rows[stage]):
            return False
        step, onto = book.steps(stage[0])[k], brute.parts(book, stage, k)
        if step[1] == "do":
            return dict(table.dealing)[step[2]] == desk
        asked = onto if table.rows[onto[0]] == () else onto[:1]
        return any(other == desk and less < rank for part in asked for other, _, less in starts[part])


class ObjectsTest(unittest.TestCase):
    def test_attributes(self):
        starts, outer = {("m", 0): ()}, {"m": ()}
        made = Free(None, starts, outer)
        starts.clear()
        outer.clear()
        self.assertEqual(vars(made), {"table": None, "starts": {("m", 0): ()}, "outer": {"m": ()}})
        self.assertEqual(vars(NotFree(1, 2, 3)), {"trail": 1, "pile": 2, "weave": 3})


class LimitsTest(unittest.TestCase):
    def test_at_the_limits(self):
        began = time.time()
        rng = random.Random(460)
        made = 0
        for _ in range(30):
            book = full_book(rng, end_odds=0.3)
            table = judge(book, own_desks(book))
            if isinstance(table, DealtTable):
                found = weaves(table)
                self.assertTrue(check_weaves(table, found))
                made += 1
        self.assertGreater(made, 0)
        self.assertLess(time.time() - began, 20)


if __name__ == "__main__":
    unittest.main()
