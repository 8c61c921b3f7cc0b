"""[99]: what onlookers know of the owed row."""

import random
import time
import unittest

import brute
import seeing
from brute import ODD_VALUES
from samples import NEST, ORDER, full_book
from stillowed.errors import InvalidRow, Refused
from stillowed.lengths import plain
from stillowed.lookers import Known, Tracked, Unknown, Untracked, check_knowing, known, row_by_changes, tracking
from stillowed.owed import OwedTable, court
from stillowed.piles import is_possible, links, piles_of, tops
from stillowed.texts import book_of, read_courses


def table_of(text):
    book = book_of(read_courses(text))
    return court(book, plain(book))


TABLE = court(ORDER, plain(ORDER))
NESTED = court(NEST, plain(NEST))


def effect(before, after):
    while before and after and before[-1] == after[-1]:
        before, after = before[:-1], after[:-1]
    return before, after


class KnownTest(unittest.TestCase):
    def test_known(self):
        piles = piles_of(NEST, ("a", "b", "c"), ("a", "a", "c"))
        found = known(NESTED, piles)
        self.assertIsInstance(found, Known)
        self.assertEqual(found.owes, ("b", "b"))
        self.assertEqual(found.places[("main", 0)], 2)
        self.assertTrue(check_knowing(NESTED, piles, found))

    def test_unknown(self):
        piles = piles_of(ORDER, ("take", "send"), ("take",))
        found = known(TABLE, piles)
        self.assertIsInstance(found, Unknown)
        self.assertNotEqual(TABLE.owed(found.one), TABLE.owed(found.other))
        self.assertTrue(check_knowing(TABLE, piles, found))

    def test_against_moments(self):
        counts = {"Known": 0, "Unknown": 0, "several": 0}
        for table, seen, shown, moments in seeing.seen_tables(7, 260):
            piles = piles_of(table.book, seen, shown)
            if not tops(piles):
                with self.assertRaises(Refused) as caught:
                    known(table, piles)
                self.assertEqual(caught.exception.word, "hidden")
                self.assertIs(check_knowing(table, piles, Known((), {})), False)
                self.assertIs(check_knowing(table, piles, Unknown((), ())), False)
                continue
            found = known(table, piles)
            self.assertTrue(check_knowing(table, piles, found))
            counts[type(found).__name__] += 1
            rows = {table.owed(moment) for moment in moments}
            if isinstance(found, Known):
                self.assertLessEqual(rows, {found.owes})
                counts["several"] += len(moments) > 1
                self.check_places(table, piles, found)
            else:
                for moment in (found.one, found.other):
                    self.assertTrue(is_possible(piles, moment))
                self.assertNotEqual(table.owed(found.one), table.owed(found.other))
        self.assertGreater(min(counts.values()), 30)

    def check_places(self, table, piles, found):
        frames = {frame for frame, _ in tops(piles)}
        grown = True
        while grown:
            more = {frame for frame, _, inner in links(piles) if inner in frames} - frames
            frames |= more
            grown = bool(more)
        self.assertEqual(set(found.places), frames)
        self.assertEqual(found.places[(table.book.main(), 0)], len(found.owes))
        for frame, stage, inner in links(piles):
            if inner in frames:
                self.assertEqual(found.owes[found.places[inner]:found.places[frame]], table.rows[stage])
        for frame, stage in tops(piles):
            self.assertEqual(found.owes[:found.places[frame]], table.rows[stage])

    def test_each_condition(self):
        piles = piles_of(NEST, ("a", "b", "c"), ("a", "a"))
        right = known(NESTED, piles)
        self.assertEqual((right.owes, right.places), (("c", "b", "b"), {("main", 0): 3, ("main", 1): 2, ("main", 2): 1}))
        self.assertTrue(check_knowing(NESTED, piles, right))
        for frame in right.places:
            for number in (-1, 0, 1, 2, 3, 4, 100):
                if number != right.places[frame]:
                    wrong = Known(right.owes, {**right.places, frame: number})
                    self.assertIs(check_knowing(NESTED, piles, wrong), False)
            without = {key: value for key, value in right.places.items() if key != frame}
            self.assertIs(check_knowing(NESTED, piles, Known(right.owes, without)), False)
        for owes in ((), ("c", "b"), ("c", "b", "b", "b"), ("b", "b", "c"), ("x", "b", "b")):
            self.assertIs(check_knowing(NESTED, piles, Known(owes, right.places)), False)
        more = Known(right.owes, {**right.places, ("zz", 9): -5})
        self.assertTrue(check_knowing(NESTED, piles, more))
        blind = piles_of(NEST, ("a",), ("a",))
        for owes in ((), ("b",)):
            self.assertIs(check_knowing(NESTED, blind, Known(owes, {("main", 0): len(owes), ("main", 1): 0})), False)

    def test_links_alone(self):
        # At the frame of x nothing more can be seen; only its links tell its place.
        table = table_of("m: a (x) b\nx: e (y) f\ny: g h")
        piles = piles_of(table.book, ("a", "e", "g"), ("a", "e", "g"))
        right = known(table, piles)
        self.assertIsInstance(right, Unknown)
        piles = piles_of(table.book, ("a", "b", "e", "f", "g", "h"), ("a", "e", "g"))
        right = known(table, piles)
        self.assertEqual((right.owes, right.places), (("h", "f", "b"), {("m", 0): 3, ("x", 1): 2, ("y", 2): 1}))
        for number in (0, 1, 3):
            wrong = Known(right.owes, {**right.places, ("x", 1): number})
            self.assertIs(check_knowing(table, piles, wrong), False)
        self.assertIs(check_knowing(table, piles, Known(("h", "b", "f"), right.places)), False)

    def test_any_moments(self):
        piles = piles_of(ORDER, ("take", "send"), ("take",))
        right = known(TABLE, piles)
        for value in ODD_VALUES:
            self.assertIs(check_knowing(TABLE, piles, Unknown(value, right.one)), False)
            self.assertIs(check_knowing(TABLE, piles, Unknown(right.one, value)), False)
        self.assertTrue(check_knowing(TABLE, piles, Unknown(right.other, right.one)))
        self.assertIs(check_knowing(TABLE, piles, Unknown(right.one, right.one)), False)
        # Both fit, but they owe the same; or one does not fit.
        self.assertIs(check_knowing(TABLE, piles, Unknown((("order", 2),), (("pay", 1), ("order", 2)))), False)
        self.assertIs(check_knowing(TABLE, piles, Unknown((("order", 2),), (("order", 0),))), False)

    def test_what_may_be_over(self):
        table = table_of("m: a [h]")
        piles = piles_of(table.book, ("a",), ("a",))
        found = known(table, piles)
        self.assertEqual((found.owes, found.places), ((), {("m", 0): 0}))
        self.assertTrue(check_knowing(table, piles, found))
        owing = table_of("m: a h")
        piles = piles_of(owing.book, ("a",), ("a",))
        found = known(owing, piles)
        self.assertIn((), (found.one, found.other))
        self.assertTrue(check_knowing(owing, piles, found))

    def test_books_at_the_limits(self):
        rng = random.Random(3)
        begun = time.time()
        checked = 0
        while checked < 4:
            book = full_book(rng, rng.choice([0.2, 0.5]), 0.05)
            words = book.deeds()
            table = court(book, {deed: ("x",) if rng.random() < 0.3 else () for deed in words})
            if not isinstance(table, OwedTable):
                continue
            piles = piles_of(book, words, tuple(rng.choice(words) for _ in range(rng.choice([0, 1, 12]))))
            if not tops(piles):
                piles = piles_of(book, words[:4], ())
            checked += 1
            self.assertTrue(check_knowing(table, piles, known(table, piles)))
            tracking(table, words)
        self.assertLess(time.time() - begun, 20)


class TrackingTest(unittest.TestCase):
    def test_small_books(self):
        found = tracking(NESTED, ("a", "b", "c"))
        self.assertIsInstance(found, Tracked)
        self.assertEqual((found.basis, found.effects), (("c",), {
            "a": (("c",), ("c", "b")), "b": (("b",), ()), "c": (("c",), ())}))
        self.assertEqual(row_by_changes(found, ("a", "a", "c", "b")), ("b",))
        found = tracking(table_of("m: [(x)] a\nx: b"), ("a", "b"))
        self.assertEqual((found.one, found.other), (("m", 0), None))
        table = table_of("m: {a b | b a b | c}")
        self.assertIsInstance(table, OwedTable)
        found = tracking(table, ("a", "b", "c"))
        self.assertEqual((found.one, found.other), (("m", 1), ("m", 3)))
        line = table_of("m: a b c")
        found = tracking(line, ("a", "b", "c"))
        self.assertEqual((found.basis, found.effects), (("a", "b", "c"), {
            "a": (("a",), ()), "b": (("b",), ()), "c": (("c",), ())}))
        self.assertEqual(row_by_changes(found, ("a", "b")), ("c",))
        self.assertEqual(row_by_changes(found, ()), ("a", "b", "c"))
        for shown, at in ((("b",), 0), (("a", "c"), 1), (("a", "b", "c", "c"), 3), (("a", "z"), 1)):
            with self.assertRaises(InvalidRow) as caught:
                row_by_changes(found, shown)
            self.assertEqual(caught.exception.at, at)
        found = tracking(line, ("a", "c"))
        self.assertEqual((found.one, found.other), (("m", 1), None))

    def test_courses_named_like_deeds(self):
        # The call of the course a adds to what is owed; that the deed a is seen does not matter.
        table = table_of("m: b | (a) c b\na: d")
        found = tracking(table, ("a", "b", "c", "d"))
        self.assertEqual((found.one, found.other), (("m", 1), None))

    def test_the_first_step_that_breaks_the_rule(self):
        # The first a leads on to what owes c d, the second one to what owes d.
        table = table_of("m: d | a c d | a d")
        found = tracking(table, ("a", "c", "d"))
        self.assertIsInstance(found, Untracked)
        steps = table.book.steps("m")
        self.assertEqual((found.one, found.other), (("m", 1), ("m", 2)))
        self.assertEqual([steps[k][2] for _, k in (found.one, found.other)], ["a", "a"])

    def test_against_effects(self):
        counts = {"Tracked": 0, "Untracked": 0, "two": 0}
        for table, seen, _, _ in seeing.seen_tables(9, 200) + [(table_of(text), tuple("abcdsz"), (), ()) for text in (
                "m: a b c", "m: {a b}", "m: a [b] c", "m: [a (m)]", "m: d | a c d | a c d", "m: s | z a s | z a s")]:
            book = table.book
            found = tracking(table, seen)
            counts[type(found).__name__] += 1
            firsts = {}
            broken = None
            for stage in sorted(table.rows):
                for k in brute.leaving(book, stage):
                    parts = brute.parts(book, stage, k)
                    if broken or not all(part in table.rows for part in parts):
                        continue
                    step = book.steps(stage[0])[k]
                    change = effect(table.rows[stage], table.owed(parts))
                    if step[1] == "call" or step[2] not in seen:
                        broken = ((stage[0], k), None) if change != ((), ()) else None
                    elif firsts.setdefault(step[2], (change, (stage[0], k)))[0] != change:
                        broken = (firsts[step[2]][1], (stage[0], k))
            if broken:
                self.assertEqual((found.one, found.other), broken)
                counts["two"] += broken[1] is not None
            else:
                self.assertEqual(found.basis, table.owed(((book.main(), 0),)))
                self.assertEqual(found.effects, {deed: told[0] for deed, told in firsts.items()})
                self.assertEqual(list(found.effects), sorted(found.effects))
                self.check_rows(table, seen, found)
        self.assertGreater(min(counts.values()), 3)

    def check_rows(self, table, seen, found):
        rng = random.Random(len(seen))
        for _ in range(5):
            shown = tuple(rng.choice(seen) for _ in range(rng.randint(0, 3))) if seen else ()
            moments = seeing.fitting(table.book, seen, shown)
            for moment in moments or ():
                self.assertEqual(row_by_changes(found, shown), table.owed(moment))
                self.assertIsInstance(known(table, piles_of(table.book, seen, shown)), Known)

    def test_kept_attributes(self):
        effects = {"a": (("a",), ())}
        kept = Tracked(("a",), effects)
        effects.clear()
        self.assertEqual((kept.basis, kept.effects), (("a",), {"a": (("a",), ())}))
        self.assertEqual(vars(Unknown(1, 2)), {"one": 1, "other": 2})
        self.assertEqual(vars(Untracked(1, 2)), {"one": 1, "other": 2})
        self.assertEqual(vars(Known(("a",), {})), {"owes": ("a",), "places": {}})


if __name__ == "__main__":
    unittest.main()
