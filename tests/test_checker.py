"""[108]: claims, what is gathered of a book, and what is concluded."""

import random
import time
import unittest

import brute
from samples import DEAD, NEST, ORDER, TORN, do, full_book, one_course, tall
from stillowed.bars import least_bars
from stillowed.bookings import first_booking
from stillowed.checker import check, concluded, gather, words
from stillowed.coarse import Blocks, clear_blocks
from stillowed.compared import Alike, compare
from stillowed.dealings import own_desks
from stillowed.debts import greatest_debt
from stillowed.depths import slope
from stillowed.desks import judge
from stillowed.errors import InvalidDealing, InvalidMove, NoEnding, Refused
from stillowed.givings import giving_of
from stillowed.lengths import lengths, plain, ways
from stillowed.lists import lists
from stillowed.loads import loads
from stillowed.makers import makers
from stillowed.met import met
from stillowed.moments import all_moments
from stillowed.owed import OwedTable, TwoEndings, court
from stillowed.texts import book_of, read_courses
from stillowed.trails import trail_to
from stillowed.useful import ranks, useless
from stillowed.weaves import weaves
from stillowed.woven import weave
from test_papers import two_with

WORDS = ("alike", "bars", "blocks", "booking", "free", "giving", "heights", "lengths", "lists", "loads", "met", "ranks", "ring",
         "slope", "table", "trail", "two", "useless", "verdict", "weave")
RUN = (("do", 0), ("call", 1), ("do", 1))


def claims():
    """For each word a claim that holds, and claims that do not."""
    table, nested = court(ORDER, plain(ORDER)), court(NEST, plain(NEST))
    heights, ring, steep = greatest_debt(table), greatest_debt(nested), slope(nested)
    listed = lists(ORDER, plain(ORDER))
    made = makers(ORDER, plain(ORDER), listed)
    quiet = court(book_of(read_courses("main: (x) a\nx: [h b]")), {"a": ("a",), "b": ("b",), "h": ()})
    giving = giving_of(table, all_moments(ORDER, 20))
    dealt = judge(ORDER, own_desks(ORDER))
    apart = judge(book_of(read_courses("w: [u] v")), (("u", "u"), ("v", "v")))
    mended = least_bars(TORN, plain(TORN), {("main", 0): 1, ("main", 1): 2})
    two = court(TORN, plain(TORN))
    longer = {**lengths(ORDER, plain(ORDER)), ("order", 0): 4}
    return {
        "alike": (("alike", table, table, compare(table, table)), [("alike", table, table, None), ("alike", table, table, Alike({}))]),
        "bars": (("bars", mended.paper), [("bars", without_nodes(mended.paper))]),
        "blocks": (("blocks", ORDER, clear_blocks(ORDER)), [("blocks", ORDER, Blocks((), ())), ("blocks", ORDER, 3)]),
        "booking": (("booking", table, RUN, first_booking(table, RUN)), [("booking", table, RUN, ()), ("booking", table, RUN, None)]),
        "free": (("free", dealt, weaves(dealt)), [("free", dealt, None), ("free", dealt, weaves(apart))]),
        "giving": (("giving", ORDER, plain(ORDER), giving), [("giving", ORDER, plain(ORDER), {**giving, (): ("a",)})]),
        "heights": (("heights", table, heights.heights, heights.peak), [("heights", table, {}, heights.peak)]),
        "lengths": (("lengths", ORDER, plain(ORDER), lengths(ORDER, plain(ORDER)), ways(ORDER, plain(ORDER))),
                    [("lengths", ORDER, plain(ORDER), longer, ways(ORDER, plain(ORDER)))]),
        "lists": (("lists", ORDER, plain(ORDER), listed, made), [("lists", ORDER, plain(ORDER), {}, made)]),
        "loads": (("loads", quiet, ("h",), loads(quiet, ("h",))), [("loads", quiet, ("h",), {}), ("loads", quiet, ("h",), None)]),
        "met": (("met", ORDER, met(ORDER)), [("met", ORDER, {}), ("met", NEST, met(ORDER))]),
        "ranks": (("ranks", ORDER, ranks(ORDER)), [("ranks", ORDER, {})]),
        "ring": (("ring", nested, ring.lap, ring.base), [("ring", nested, (), ()), ("ring", table, ring.lap, ring.base)]),
        "slope": (("slope", nested, steep.gain, steep.span, steep.heights, steep.lap, steep.base),
                  [("slope", nested, 2, 2, steep.heights, steep.lap, steep.base)]),
        "table": (("table", table), [("table", OwedTable(ORDER, plain(ORDER), {}, {}, {}))]),
        "trail": (("trail", ORDER, ("pay", 2), trail_to(ORDER, ("pay", 2))), [("trail", ORDER, ("pay", 2), ((),))]),
        "two": (("two", TORN, plain(TORN), two), [("two", TORN, plain(TORN), two_with(two, trail=()))]),
        "useless": (("useless", DEAD, useless(DEAD)), [("useless", DEAD, (("main", 2),))]),
        "verdict": (("verdict", ORDER, own_desks(ORDER), dealt), [("verdict", ORDER, own_desks(ORDER), None)]),
        "weave": (("weave", dealt, apart, weave(dealt, apart)), [("weave", dealt, apart, None)]),
    }


def fault(case, function, *told):
    with case.assertRaises((InvalidDealing, InvalidMove, NoEnding, Refused)) as caught:
        function(*told)
    return type(caught.exception), list(vars(caught.exception).values())[0]


def without_nodes(paper):
    return type(paper)(paper.book, paper.view, paper.prices, paper.most, paper.cost, paper.nodes[:-1])


class CheckTest(unittest.TestCase):
    def test_words(self):
        self.assertEqual(words(), WORDS)

    def test_each_word(self):
        told = claims()
        self.assertEqual(tuple(sorted(told)), WORDS)
        for word, (right, wrong) in told.items():
            self.assertIs(check(right), True, word)
            for claim in wrong:
                self.assertIs(check(claim), False, word)

    def test_what_has_no_such_form(self):
        for word, (right, _) in claims().items():
            for value in (right[:-1], right + (None,), right[:1], list(right), ("zz",) + right[1:], (word.upper(),) + right[1:],
                          (None,) + right[1:], ([word],) + right[1:], right[1:], (right,), ("check_" + word,) + right[1:]):
                self.assertIs(check(value), False, (word, value))
        for value in brute.ODD_VALUES + [("table", None), ("table", ORDER), ("two", TORN, plain(TORN), None), ("ranks", 3, {}),
                                         ("met", ORDER, None), ("useless", ORDER, None), ("bars", None), ("free", None, None)]:
            self.assertIs(check(value), False)

    def test_errors_pass(self):
        table = court(ORDER, plain(ORDER))
        self.assertEqual(fault(self, check, ("booking", table, (("do", 9),), ())), (InvalidMove, 0))
        self.assertEqual(fault(self, check, ("verdict", ORDER, (), None)), (InvalidDealing, 0))
        self.assertEqual(fault(self, check, ("blocks", DEAD, None)), (NoEnding, ("main", 0)))
        self.assertEqual(fault(self, check, ("giving", DEAD, plain(DEAD), {})), (NoEnding, ("main", 0)))
        self.assertEqual(fault(self, check, ("loads", table, ("take",), None)), (Refused, "shown"))
        self.assertEqual(fault(self, check, ("alike", table, court(NEST, plain(NEST)), None)), (Refused, "stages"))
        dealt = judge(ORDER, own_desks(ORDER))
        self.assertEqual(fault(self, check, ("weave", dealt, dealt, None)), (Refused, "deeds"))


class GatherTest(unittest.TestCase):
    def test_dead_books(self):
        self.assertEqual(gather(DEAD, plain(DEAD)), (("useless", DEAD, (("main", 0),)),))
        book = one_course(2, (), do(0, "a", 1))
        self.assertEqual(gather(book, plain(book)), (("useless", book, (("main", 0), ("main", 1))),))

    def test_clear_and_torn_books(self):
        view = plain(ORDER)
        found = gather(ORDER, view)
        self.assertEqual(found[:3], (("ranks", ORDER, ranks(ORDER)), ("met", ORDER, met(ORDER)),
                                     ("lengths", ORDER, view, lengths(ORDER, view), ways(ORDER, view))))
        self.assertEqual((len(found), found[3][0], len(found[3])), (4, "table", 2))
        self.assertEqual(vars(found[3][1]), vars(court(ORDER, view)))
        found = gather(TORN, plain(TORN))
        self.assertEqual([claim[0] for claim in found], ["ranks", "met", "lengths", "two"])
        self.assertEqual(found[3][1:3], (TORN, plain(TORN)))
        self.assertEqual(vars(found[3][3]), vars(court(TORN, plain(TORN))))

    def test_errors(self):
        huge = tall((8, 8, 8, 8, 7, 7, 7, 7))
        self.assertEqual(fault(self, gather, huge, plain(huge)), (Refused, "long"))

    def test_later_changes_of_the_view_have_no_effect(self):
        view = plain(TORN)
        found = gather(TORN, view)
        view.clear()
        self.assertTrue(all(check(claim) for claim in found))
        found[0][1].names()
        gather(TORN, plain(TORN))[0][2].clear()
        self.assertEqual(gather(TORN, plain(TORN))[0], ("ranks", TORN, ranks(TORN)))


class ConcludedTest(unittest.TestCase):
    def test_what_is_gathered(self):
        rng = random.Random(1081)
        seen = {"dead": 0, "clear": 0, "torn": 0}
        others = []
        for book in brute.mixed_books(1081, 250):
            view = plain(book) if rng.random() < 0.5 else brute.random_view(rng, book, 2)
            found = gather(book, view)
            self.assertTrue(all(check(claim) is True for claim in found))
            word = concluded(book, view, found)
            if (book.main(), 0) not in brute.useful(book):
                self.assertEqual(word, "dead")
            else:
                verdict = court(book, view)
                self.assertEqual(word, "clear" if isinstance(verdict, OwedTable) else "torn")
            seen[word] += 1
            # Claims of other books, and any values, change nothing.
            mixed = [claim for claim in others if claim[1] != book and getattr(claim[1], "book", None) != book]
            mixed = mixed[-6:] + brute.ODD_VALUES + list(found)
            self.assertEqual(concluded(book, view, mixed), word)
            self.assertIsNone(concluded(book, view, mixed[:-len(found)]))
            self.assertEqual(concluded(book, view, tuple(reversed(found))), word)
            if word != "dead":
                self.assertIsNone(concluded(book, view, found[:-1]))
            others.extend(found)
        self.assertGreater(min(seen.values()), 10)

    def test_claims_that_do_not_decide_it(self):
        view = plain(TORN)
        two = court(TORN, view)
        right = ("two", TORN, view, two)
        for claim in (("two", NEST, view, two), ("two", TORN, {**view, "cash": ()}, two), ("two", TORN, view, two_with(two, trail=())),
                      ("two", TORN, {deed: view[deed] for deed in view if deed != "cash"}, two), right[:3], list(right), ("two",),
                      ("two", TORN, view, None), ("table", court(NEST, plain(NEST))), ("table", two), ("table", None),
                      ("useless", TORN, ()), ("useless", TORN, (("main", 0),)), ("useless", TORN, (None,)), ("useless", DEAD, useless(DEAD))):
            self.assertIsNone(concluded(TORN, view, [claim]), claim)
            self.assertEqual(concluded(TORN, view, [claim, right]), "torn")
        self.assertIsNone(concluded(TORN, view, ()))
        # On the deeds of the book the view is the same.
        self.assertEqual(concluded(TORN, view, [("two", TORN, {**view, "zz": ("q",)}, two)]), "torn")
        self.assertEqual(concluded(TORN, {**view, "zz": ("q",)}, [right]), "torn")

    def test_tables(self):
        view = plain(NEST)
        table = court(NEST, view)
        self.assertEqual(concluded(NEST, view, [("table", table)]), "clear")
        self.assertIsNone(concluded(NEST, {**view, "a": ()}, [("table", table)]))
        self.assertIsNone(concluded(ORDER, plain(ORDER), [("table", table)]))
        self.assertIsNone(concluded(NEST, view, [("table", OwedTable(NEST, view, table.rows, table.ways, {}))]))
        self.assertIsNone(concluded(NEST, view, [("table", OwedTable(NEST, {}, table.rows, table.ways, table.ranks))]))
        more = court(NEST, {**view, "zz": ("q",)})
        self.assertEqual(concluded(NEST, view, [("table", more)]), "clear")

    def test_useless_stages(self):
        book = one_course(3, (2,), do(1, "a", 2), do(0, "b", 0))
        self.assertEqual(concluded(book, plain(book), [("useless", book, (("main", 0),))]), "dead")
        for lot in ((), (("main", 1),), (("main", 0), ("main", 1)), (("main", 0), ("main", 0)), (("x", 0), ("main", 0))):
            self.assertIsNone(concluded(book, plain(book), [("useless", book, lot)]))
        # A closed lot without the start.
        book = one_course(3, (0,), do(1, "a", 1), do(2, "b", 2))
        self.assertTrue(check(("useless", book, (("main", 1),))))
        self.assertIsNone(concluded(book, plain(book), [("useless", book, (("main", 1),))]))

    def test_errors_pass(self):
        huge = tall((8, 8, 8, 8, 7, 7, 7))
        book = type(huge)((("main", 3, (1, 2), (do(0, "p", 1), do(0, "q", 2))),) + huge.courses)
        view = plain(book)
        claim = ("two", book, view, TwoEndings(("main", 0), ((),), lengths(book, view), ways(book, view), ("p",), ("q",)))
        self.assertEqual(fault(self, concluded, book, view, [claim]), (Refused, "long"))
        # A claim of another book is not looked at.
        self.assertIsNone(concluded(NEST, plain(NEST), [claim]))
        hidden = {**view, "x": ()}
        self.assertIsNone(concluded(book, hidden, [claim]))
        self.assertEqual(concluded(book, hidden, list(gather(book, hidden)) + [claim]), "torn")


class LimitsTest(unittest.TestCase):
    def test_at_the_limits(self):
        began = time.time()
        rng = random.Random(1082)
        for _ in range(10):
            book = full_book(rng)
            view = plain(book)
            self.assertIn(concluded(book, view, gather(book, view)), ("clear", "torn"))
        self.assertLess(time.time() - began, 10)


if __name__ == "__main__":
    unittest.main()
