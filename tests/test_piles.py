"""[94] to [96], as far as module `piles`: what is possible when only some deeds are seen."""

import random
import time
import unittest

import brute
from samples import DEAD, NEST, ORDER, call, chain_of_rank, course, do, full_book
from stillowed.books import Book
from stillowed.errors import InvalidRow, NoEnding, Refused
from stillowed.moments import deeds_of, moved, moves, run_moments, start
from stillowed.piles import (Piles, check_piles, is_possible, later_deeds, links, may_be_over, piles_of, run_like, tops)

INFINITE = 10 ** 9


def facts_by_hand(book, seen, shown):
    """All facts and frames by the words of [94]: walks and entered frames, by shortening until nothing changes."""
    good = brute.useful(book)
    many = len(shown)

    def behind(deed, place):
        if deed not in seen:
            return place
        return place + 1 if place < many and shown[place] == deed else None

    walks = {(name, b, 0, b): 0 for name in book.names() if (name, 0) in good for b in range(many + 1)}
    changed = True
    while changed:
        changed = False
        for (name, b, number, place), cost in list(walks.items()):
            for k in brute.leaving(book, (name, number)):
                parts = brute.parts(book, (name, number), k)
                if not all(part in good for part in parts):
                    continue
                if len(parts) == 1:
                    onto = behind(book.steps(name)[k][2], place)
                    found = [] if onto is None else [(onto, cost + 1)]
                else:
                    found = [(q, cost + 2 + walks[(parts[0][0], place, e, q)]) for q in range(place, many + 1)
                             for e in book.ends(parts[0][0]) if (parts[0][0], place, e, q) in walks]
                for onto, total in found:
                    fact = (name, b, parts[-1][1], onto)
                    if total < walks.get(fact, INFINITE):
                        walks[fact] = total
                        changed = True
    frames = {(book.main(), 0): 0}
    changed = True
    while changed:
        changed = False
        for (name, b, number, place), cost in walks.items():
            for k in brute.leaving(book, (name, number)) if (name, b) in frames else ():
                parts = brute.parts(book, (name, number), k)
                if len(parts) == 2 and all(part in good for part in parts):
                    total = frames[(name, b)] + cost + 1
                    if total < frames.get((parts[0][0], place), INFINITE):
                        frames[(parts[0][0], place)] = total
                        changed = True
    return {fact: cost for fact, cost in walks.items() if fact[:2] in frames}, frames


def fitting(book, seen, shown, most_stages=6, most=2500):
    """The moments that fit with the fewest moves to them; whether runs were cut short; None if there are too many."""
    good = brute.useful(book)
    first = (((book.main(), 0),), 0)
    best, level, cut = {first: 0}, [first], False
    while level:
        after = []
        for moment, place in level:
            for move in brute.let(book, good, moment):
                deeds = [deed for deed in brute.deed_of(book, moment, move) if deed in seen]
                if deeds and shown[place:place + 1] != tuple(deeds):
                    continue
                state = (brute.behind(book, moment, move), place + len(deeds))
                if len(state[0]) > most_stages:
                    cut = True
                elif state not in best:
                    best[state] = best[(moment, place)] + 1
                    after.append(state)
        level = after
        if len(best) > most:
            return None, cut
    return {moment: many for (moment, place), many in best.items() if place == len(shown)}, cut


def cases(seed, many):
    rng = random.Random(seed)
    for book in brute.mixed_books(seed, many, courses=3, stages=4):
        if (book.main(), 0) in brute.useful(book):
            for _ in range(2):
                seen = tuple(sorted(rng.sample("abcdz", rng.randint(0, 3))))
                shown = tuple(rng.choice(seen) for _ in range(rng.randint(0, 4))) if seen else ()
                if rng.random() < 0.7:
                    deeds = [deed for deed in visible_row(rng, book) if deed in seen]
                    shown = tuple(deeds[:4])
                yield book, seen, shown


def visible_row(rng, book):
    good = brute.useful(book)
    moment, row = start(book), ()
    for _ in range(12):
        if not moment:
            break
        move = rng.choice(brute.let(book, good, moment))
        row += brute.deed_of(book, moment, move)
        moment = brute.behind(book, moment, move)
    return row


class PilesOfTest(unittest.TestCase):
    def test_facts_and_frames(self):
        found = piles_of(ORDER, ("card", "stamp"), ("card",))
        self.assertEqual((found.book, found.seen, found.shown), (ORDER, ("card", "stamp"), ("card",)))
        self.assertEqual(found.frames, {("order", 0): 0, ("pay", 0): 2})
        self.assertEqual(found.walks, {
            ("order", 0, 0, 0): 0, ("order", 0, 1, 0): 1, ("order", 0, 2, 1): 4, ("order", 0, 3, 1): 5,
            ("pay", 0, 0, 0): 0, ("pay", 0, 1, 1): 1, ("pay", 0, 2, 1): 1})
        self.assertEqual(links(found), ((("order", 0), ("order", 2), ("pay", 0)),))
        self.assertEqual(tops(found), ((("order", 0), ("order", 2)), (("order", 0), ("order", 3)),
                                       (("pay", 0), ("pay", 1)), (("pay", 0), ("pay", 2))))
        self.assertTrue(may_be_over(found))
        self.assertEqual(later_deeds(found), ("stamp",))

    def test_nothing_is_seen(self):
        found = piles_of(ORDER, ())
        self.assertEqual((found.seen, found.shown), ((), ()))
        self.assertEqual(len(found.walks), 8)
        self.assertEqual(later_deeds(found), ())
        self.assertTrue(is_possible(found, (("pay", 3), ("order", 2))))
        self.assertEqual(run_like(found, ()), run_like(piles_of(ORDER, ("zz",)), ()))

    def test_rows_that_no_run_shows(self):
        for shown in (("stamp",), ("card", "card"), ("card", "stamp", "card"), ("zz",)):
            found = piles_of(ORDER, ("card", "stamp", "zz"), shown)
            self.assertEqual(tops(found), ())
            self.assertFalse(may_be_over(found))
            self.assertEqual(later_deeds(found), ())
            self.assertFalse(is_possible(found, (("order", 0),)))
            self.assertTrue(check_piles(found))
            with self.assertRaises(Refused) as caught:
                run_like(found, ())
            self.assertEqual(caught.exception.word, "unfit")

    def test_calls_and_rings(self):
        # main: a (main) b | c, the deeds a and b seen.
        found = piles_of(NEST, ("a", "b"), ("a", "a", "b"))
        self.assertEqual(found.frames, {("main", 0): 0, ("main", 1): 2, ("main", 2): 4})
        self.assertTrue(is_possible(found, (("main", 3), ("main", 2))))
        self.assertTrue(is_possible(found, (("main", 2),)))
        self.assertFalse(is_possible(found, (("main", 3),)))
        self.assertFalse(is_possible(found, (("main", 3), ("main", 2), ("main", 2))))
        self.assertEqual(later_deeds(found), ("b",))
        self.assertFalse(may_be_over(found))
        self.assertEqual(run_like(found, (("main", 2),)),
                         (("do", 0), ("call", 2), ("do", 0), ("call", 2), ("do", 1), ("leave",), ("do", 3), ("leave",)))

    def test_random_books(self):
        for book, seen, shown in cases(161, 300):
            found = piles_of(book, seen, shown)
            walks, frames = facts_by_hand(book, seen, shown)
            self.assertEqual(found.walks, walks)
            self.assertEqual(found.frames, frames)
            self.assertTrue(check_piles(found))
            good = brute.useful(book)
            linked = {((name, b), (name, parts[1][1]), (parts[0][0], place)) for name, b, number, place in walks
                      for k in brute.leaving(book, (name, number)) for parts in [brute.parts(book, (name, number), k)]
                      if len(parts) == 2 and all(part in good for part in parts)}
            self.assertEqual(links(found), tuple(sorted(linked)))
            self.assertEqual(tops(found), tuple(sorted(((name, b), (name, number)) for name, b, number, place in walks
                                                       if place == len(shown))))

    def test_errors_in_their_order(self):
        for shown in ((), None, ("q",)):
            with self.assertRaises(NoEnding) as caught:
                piles_of(DEAD, ("a",), shown)
            self.assertEqual(caught.exception.stage, ("main", 0))

    def test_any_value_as_shown(self):
        seen = ("a", "b")
        for value in brute.ODD_VALUES + [["a"], "a", "ab"]:
            if not isinstance(value, tuple):
                with self.assertRaises(InvalidRow) as caught:
                    piles_of(NEST, seen, value)
                self.assertEqual(caught.exception.at, -1)
        for value in brute.ODD_VALUES + ["c", "aa", "A", ("a",), ["a"]]:
            for many in (0, 1, 5, 11):
                for behind in ((), ("a",), (None,), ("a",) * 12):
                    with self.assertRaises(InvalidRow) as caught:
                        piles_of(NEST, seen, ("a",) * many + (value,) + behind)
                    self.assertEqual(caught.exception.at, many)
        with self.assertRaises(InvalidRow) as caught:
            piles_of(NEST, (), ("a",))
        self.assertEqual(caught.exception.at, 0)

    def test_twelve_and_thirteen(self):
        found = piles_of(NEST, ("a",), ("a",) * 12)
        self.assertEqual(later_deeds(found), ("a",))
        self.assertTrue(may_be_over(found))
        self.assertEqual(len(found.frames), 13)
        for shown in (("a",) * 13, ("a",) * 12 + (None,), ("a",) * 400, ("a",) * 12 + ("q", "q")):
            with self.assertRaises(InvalidRow) as caught:
                piles_of(NEST, ("a",), shown)
            self.assertEqual(caught.exception.at, 12)
        with self.assertRaises(InvalidRow) as caught:
            piles_of(NEST, ("a",), ("a",) * 11 + ("q",) + ("a",) * 5)
        self.assertEqual(caught.exception.at, 11)

    def test_later_deeds_lead_to_useful_stages(self):
        book = Book((course("main", 4, (3,), do(0, "a", 1), do(0, "b", 2), do(2, "c", 3), call(2, "x", 3)),
                     course("x", 2, (0,), do(0, "d", 1))))
        self.assertEqual(later_deeds(piles_of(book, ("a", "b", "c", "d"))), ("b",))
        self.assertEqual(later_deeds(piles_of(book, ("a", "b", "c", "d"), ("b",))), ("c",))
        self.assertEqual(later_deeds(piles_of(book, ("a", "c", "d"))), ("c",))


class FitTest(unittest.TestCase):
    def test_random_books(self):
        rng = random.Random(162)
        fits = 0
        for book, seen, shown in cases(162, 300):
            found = piles_of(book, seen, shown)
            known, cut = fitting(book, seen, shown)
            if known is None:
                continue
            for moment, many in list(known.items())[:60]:
                fits += 1
                self.assertIs(is_possible(found, moment), True)
                run = run_like(found, moment)
                self.assertTrue(len(run) == many or cut and len(run) < many)
                self.assertEqual(run_moments(book, run)[-1], moment)
                self.assertEqual(tuple(deed for deed in deeds_of(book, run) if deed in seen), shown)
            stages = book.stages()
            for _ in range(25):
                moment = tuple(rng.choice(stages) for _ in range(rng.randint(0, 3)))
                if not cut:
                    self.assertIs(is_possible(found, moment), moment in known)
                if not is_possible(found, moment):
                    self.assertNotIn(moment, known)
                    with self.assertRaises(Refused) as caught:
                        run_like(found, moment)
                    self.assertEqual(caught.exception.word, "unfit")
            later = set()
            for moment in known:
                for move in brute.let(book, brute.useful(book), moment):
                    later.update(deed for deed in brute.deed_of(book, moment, move) if deed in seen)
            if not cut:
                self.assertIs(may_be_over(found), () in known)
                self.assertEqual(later_deeds(found), tuple(sorted(later)))
            self.assertLessEqual(later, set(later_deeds(found)))
        self.assertGreater(fits, 1000)

    def test_any_value_as_the_moment(self):
        found = piles_of(NEST, ("a", "b"), ("a",))
        self.assertFalse(is_possible(found, (("main", 0),)))
        self.assertTrue(is_possible(found, (("main", 1),)))
        for value in brute.ODD_VALUES + [[("main", 1)], (("main", 1), None), (None, ("main", 1)), (("main", 1.0),),
                                         (("main", True),), (("main", 9),), (("x", 1),)]:
            self.assertIs(is_possible(found, value), False, value)
            with self.assertRaises(Refused) as caught:
                run_like(found, value)
            self.assertEqual(caught.exception.word, "unfit")
        self.assertIs(is_possible(piles_of(NEST, ("a", "b"), ("a", "b")), ()), True)

    def test_a_call_whose_caller_does_not_go_on(self):
        # The course x is entered by the first call; the second one would go on at a useless stage.
        book = Book((course("main", 4, (2,), call(0, "x", 1), do(1, "a", 2), call(0, "x", 3)), course("x", 1, (0,))))
        found = piles_of(book, ("a",))
        self.assertTrue(is_possible(found, (("x", 0), ("main", 1))))
        self.assertFalse(is_possible(found, (("x", 0), ("main", 3))))
        self.assertEqual(links(found), ((("main", 0), ("main", 1), ("x", 0)),))

    def test_the_shorter_way_into_a_call(self):
        # Both the stages 1 and 2 call x and go on at 3; the way to stage 1 passes a longer call.
        long = course("y", 4, (3,), *[do(n, "h", n + 1) for n in range(3)])
        book = Book((course("main", 4, (3,), call(0, "y", 1), do(0, "h", 2), call(1, "x", 3), call(2, "x", 3)),
                     course("x", 2, (1,), do(0, "a", 1)), long))
        found = piles_of(book, ("a",))
        self.assertEqual(run_like(found, (("x", 0), ("main", 3))), (("do", 1), ("call", 3)))
        # The same, where a deed is seen in x or before it: the frames of x begin at unlike places.
        book = Book((course("main", 4, (3,), do(0, "a", 1), call(1, "x", 3), call(0, "y", 2), call(2, "x", 3)),
                     course("x", 2, (1,), do(0, "a", 1), do(0, "h", 1)), long))
        found = piles_of(book, ("a",), ("a",))
        self.assertEqual(run_like(found, (("x", 1), ("main", 3))), (("do", 0), ("call", 1), ("do", 1)))
        self.assertEqual(found.frames[("x", 0)], 6)
        self.assertEqual(found.frames[("x", 1)], 2)
        # And where the outer frames differ: only the one in which more is seen is near.
        book = Book((course("main", 4, (3,), call(0, "z", 3), do(0, "a", 1), call(1, "z", 3)),
                     course("z", 3, (2,), call(0, "y", 1), call(1, "x", 2), call(0, "x", 2)),
                     course("x", 2, (1,), do(0, "a", 1), do(0, "h", 1)), long))
        found = piles_of(book, ("a",), ("a",))
        self.assertEqual(run_like(found, (("x", 1), ("z", 2), ("main", 3))), (("call", 0), ("call", 2), ("do", 0)))

    def test_the_limit_of_moves(self):
        for rank in (19999, 20000, 20001):
            book = chain_of_rank(rank)
            found = piles_of(book, ("zz",))
            if rank > 20000:
                with self.assertRaises(Refused) as caught:
                    run_like(found, ())
                self.assertEqual(caught.exception.word, "long")
            else:
                self.assertEqual(len(run_like(found, ())), rank)
            self.assertTrue(is_possible(found, ()))
            with self.assertRaises(Refused) as caught:
                run_like(found, (("a", 0), ("a", 1)))
            self.assertEqual(caught.exception.word, "unfit")

    def test_deep_moments(self):
        found = piles_of(NEST, ())
        deep = (("main", 1),) + (("main", 2),) * 59
        self.assertEqual(run_like(found, deep), (("do", 0), ("call", 2)) * 59 + (("do", 0),))
        found = piles_of(NEST, ("b",), ("b",))
        self.assertTrue(is_possible(found, (("main", 3),) + deep[1:]))
        self.assertFalse(is_possible(found, (("main", 1),) + deep[1:]))

    def test_at_the_limits(self):
        began = time.time()
        rng = random.Random(163)
        for _ in range(8):
            book = full_book(rng)
            for seen in ((), book.deeds(), book.deeds()[::3]):
                moment, run = start(book), ()
                for _ in range(60):
                    if moment:
                        run += (rng.choice(moves(book, moment)),)
                        moment = moved(book, moment, run[-1])
                shown = tuple(deed for deed in deeds_of(book, run) if deed in seen)
                if len(shown) <= 12:
                    found = piles_of(book, seen, shown)
                    self.assertTrue(is_possible(found, moment))
                    self.assertLessEqual(len(run_like(found, moment)), len(run))
                found = piles_of(book, seen, shown[:12])
                self.assertTrue(tops(found))
                links(found)
                self.assertTrue(check_piles(found))
                self.assertTrue(set(shown[12:13]) <= set(later_deeds(found)))
        self.assertLess(time.time() - began, 30)


class CheckPilesTest(unittest.TestCase):
    def test_one_thing_changed(self):
        for book, seen, shown in cases(164, 40):
            right = piles_of(book, seen, shown)
            self.assertIs(check_piles(Piles(book, seen, shown, right.walks, right.frames)), True)
            for name in ("walks", "frames"):
                table = getattr(right, name)
                for key in list(table)[::3]:
                    for change in ({**table, key: table[key] + 1}, {**table, key: table[key] - 1},
                                   {other: table[other] for other in table if other != key}):
                        told = {"walks": right.walks, "frames": right.frames, name: change}
                        self.assertIs(check_piles(Piles(book, seen, shown, **told)), False)
            extra = (book.main(), 0, 0, 0) if (book.main(), 0, 0, 0) not in right.walks else (book.main(), 5, 0, 5)
            self.assertFalse(check_piles(Piles(book, seen, shown, {**right.walks, extra: 0}, right.frames)))
            self.assertFalse(check_piles(Piles(book, seen, shown, right.walks, {**right.frames, (book.main(), 9): 0})))
            self.assertFalse(check_piles(Piles(book, seen, shown, {}, {})))

    def test_piles_keep_their_arguments(self):
        found = Piles(ORDER, ("a",), ("a",), {("order", 0, 0, 0): 1}, {("order", 0): 2})
        self.assertEqual(vars(found), {"book": ORDER, "seen": ("a",), "shown": ("a",),
                                       "walks": {("order", 0, 0, 0): 1}, "frames": {("order", 0): 2}})
        walks = {}
        found = Piles(ORDER, (), (), walks, {})
        walks[1] = 2
        self.assertEqual(found.walks, {})


if __name__ == "__main__":
    unittest.main()
