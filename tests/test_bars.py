"""[88]: the cheapest steps without which a book is clear, and papers that show that none are cheaper."""

import itertools
import random
import time
import unittest

import brute
import sound
from samples import DEAD, NEST, ORDER, TORN, do, one_course
from stillowed.bars import Fault, Mended, NoCheaper, all_least_bars, check_no_cheaper, least_bars
from stillowed.books import Book
from stillowed.changes import barred
from stillowed.errors import NoEnding
from stillowed.lengths import plain
from stillowed.owed import OwedTable, court
from stillowed.texts import book_of, read_courses

# Seven stages, each with a choice of a and b: just one of each pair has to be barred.
PAIRS = one_course(8, (7,), *[do(n, deed, n + 1) for n in range(7) for deed in "ab"])


def named(book):
    return [(name, k) for name in book.names() for k in range(len(book.steps(name)))]


def torn_book(rng):
    """A book with several unlike choices, some by calls."""
    lines = ["a", "b", "a b", "b a", "(x) a", "c (x)", "(x)", "c", "[a] b", "(main) c"]
    inner = ["a", "b", "c", "a c", "-", "[b]", "c (x)"]
    text = "main: " + " | ".join(rng.choice(lines) for _ in range(rng.randint(2, 4)))
    return book_of(read_courses(text + "\nx: " + " | ".join(rng.choice(inner) for _ in range(rng.randint(1, 3)))))


def drawn(seed, many):
    """Tuples (book, view, prices, most)."""
    rng = random.Random(seed)
    found = []
    while len(found) < many:
        book = torn_book(rng) if rng.random() < 0.7 else brute.random_book(rng, steps=7)
        if (book.main(), 0) not in brute.useful(book):
            continue
        names = named(book)
        prices = {name: rng.choice([1, 1, 2, 3]) for name in rng.sample(names, min(len(names), rng.randint(0, 7)))}
        view = plain(book) if rng.random() < 0.7 else brute.random_view(rng, book, 2)
        found.append((book, view, prices, rng.choice([14, 14, 14, 0, 1, 2])))
    return found


def mends(book, view, lot):
    other = barred(book, lot)
    return (other.main(), 0) in brute.useful(other) and isinstance(court(other, view), OwedTable)


def slow_least(book, view, prices, most):
    lots = [lot for many in range(min(most, len(prices)) + 1) for lot in itertools.combinations(sorted(prices), many)]
    able = [lot for lot in lots if mends(book, view, lot)]
    cost = {lot: sum(prices[name] for name in lot) for lot in able}
    return tuple(lot for lot in able if cost[lot] == min(cost.values()))


def paper_with(paper, **told):
    made = {**vars(paper), **told}
    return NoCheaper(*[made[name] for name in ("book", "view", "prices", "most", "cost", "nodes")])


def node_with(paper, at, **told):
    """The paper with one node changed."""
    bars, kept, word, why = paper.nodes[at]
    made = {"bars": bars, "kept": kept, "word": word, "why": why, **told}
    node = (made["bars"], made["kept"], made["word"], made["why"])
    return paper_with(paper, nodes=paper.nodes[:at] + (node,) + paper.nodes[at + 1:])


def fault_with(fault, **told):
    made = {**vars(fault), **told}
    return Fault(made["place"], made["first"], made["second"], made["numbers"])


def is_right_paper(paper):
    """Whether the nodes are those of a tree, by the words of [88]."""
    nodes = list(paper.nodes)

    def tree(bars, kept):
        if not nodes or nodes[0][:2] != (bars, kept):
            return False
        _, _, word, why = nodes.pop(0)
        if word == "dear":
            return sum(paper.prices[bar] for bar in bars) >= paper.cost or len(bars) > paper.most
        other = barred(paper.book, bars)
        if word == "dead":
            return sorted(set(why)) == list(why) and (other.main(), 0) in why and sound.is_closed(other, set(why))
        if word != "fault" or not is_fault(paper, other, bars, why):
            return False
        below = sorted(name for name in steps_of(paper.book, why.first) | steps_of(paper.book, why.second)
                       if name in paper.prices and name not in kept)
        return all(tree(tuple(sorted(bars + (name,))), tuple(sorted(kept + tuple(below[:at])))) for at, name in enumerate(below))

    return tree((), ()) and not nodes


def moments_of(book, run):
    """The moments of a run, None if it is none from the start to the end."""
    found = [((book.main(), 0),)]
    for move in run:
        if move not in brute.raw_moves(book, found[-1]):
            return None
        found.append(brute.behind(book, found[-1], move))
    return found if found[-1] == () else None


def steps_of(book, run):
    return {(moment[0][0], move[1]) for moment, move in zip(moments_of(book, run), run) if len(move) == 2}


def is_fault(paper, other, bars, fault):
    book, view, place = paper.book, paper.view, fault.place
    rows = []
    for run in (fault.first, fault.second):
        moments = moments_of(book, run)
        if moments is None or steps_of(book, run) & set(bars) or len(run) <= place:
            return False
        end = [at for at in range(place, len(run) + 1) if len(moments[at]) < len(moments[place])][0]
        deeds = [brute.deed_of(book, moments[at], run[at]) for at in range(place, end)]
        rows.append(tuple(shown for pair in deeds for deed in pair for shown in view[deed]))
    stage = moments_of(book, fault.first)[place][0]
    numbers = fault.numbers
    if fault.first[:place] != fault.second[:place] or brute.quick_within(*rows) or numbers.get(stage) != len(rows[0]):
        return False
    if not sound.is_closed(other, {key for key in brute.all_stages(book) if key not in numbers}):
        return False
    for key in numbers:
        if brute.is_end(other, key) and numbers[key] > 0:
            return False
        for k in brute.leaving(other, key):
            parts = brute.parts(other, key, k)
            step = other.steps(key[0])[k]
            shown = len(view[step[2]]) if step[1] == "do" else 0
            if sound.has_keys(parts, numbers) and numbers[key] > shown + sum(numbers[part] for part in parts):
                return False
    return True


class LeastBarsTest(unittest.TestCase):
    def test_small_books(self):
        prices = {("main", 0): 3, ("main", 1): 2, ("main", 2): 2}
        self.assertEqual(all_least_bars(TORN, plain(TORN), prices), ((("main", 1),), (("main", 2),)))
        mended = least_bars(TORN, plain(TORN), prices)
        self.assertIsInstance(mended, Mended)
        self.assertEqual((mended.bars, mended.cost), ((("main", 1),), 2))
        self.assertEqual(vars(mended.table), vars(court(barred(TORN, mended.bars), {"card": ("card",), "stamp": ("stamp",)})))
        # A clear book needs no bars.
        mended = least_bars(ORDER, plain(ORDER), {("order", 0): 1})
        self.assertEqual((mended.bars, mended.cost, len(mended.paper.nodes)), ((), 0, 1))
        self.assertEqual(vars(mended.table), vars(court(ORDER, plain(ORDER))))
        self.assertEqual(all_least_bars(ORDER, plain(ORDER), {}), ((),))

    def test_none_that_mends(self):
        for prices, most in (({}, 14), ({("main", 0): 1}, 0), ({("main", 2): 1}, 14), ({("main", 0): 5, ("main", 1): 7}, 14)):
            book = one_course(2, (1,), do(0, "a", 1), do(0, "b", 1), do(0, "c", 1), do(0, "d", 1))
            self.assertEqual(all_least_bars(book, plain(book), prices, most=most), ())
            mended = least_bars(book, plain(book), prices, most=most)
            self.assertEqual((mended.bars, mended.cost, mended.table), (None, None, None))
            self.assertEqual(mended.paper.cost, 1 + sum(prices.values()))
            self.assertTrue(check_no_cheaper(mended.paper))

    def test_lots_of_equal_price(self):
        book = one_course(5, (4,), do(0, "a", 4), do(0, "b", 4), do(0, "c", 1), do(1, "d", 4))
        # Barring a and b, or c or d and one of them, leaves one line.
        prices = {("main", 0): 2, ("main", 1): 1, ("main", 2): 1, ("main", 3): 1}
        self.assertEqual(all_least_bars(book, plain(book), prices), ((("main", 1), ("main", 2)), (("main", 1), ("main", 3))))
        prices = {("main", 0): 2, ("main", 1): 2, ("main", 2): 1, ("main", 3): 1}
        found = all_least_bars(book, plain(book), prices)
        self.assertEqual(found, ((("main", 0), ("main", 2)), (("main", 0), ("main", 3)), (("main", 1), ("main", 2)),
                                 (("main", 1), ("main", 3))))
        # Of lots with equal prices those with fewer steps go first.
        book = one_course(2, (1,), do(0, "a", 1), do(0, "b", 1), do(0, "h", 0))
        view = {"a": ("a",), "b": ("b",), "h": ()}
        self.assertEqual(all_least_bars(book, view, {("main", 0): 1, ("main", 1): 1}), ((("main", 0),), (("main", 1),)))
        book = book_of(read_courses("main: a | b c | b d"))
        names = {("main", 0): 2, ("main", 1): 1, ("main", 2): 1, ("main", 4): 1, ("main", 3): 1}
        self.assertEqual([len(lot) for lot in all_least_bars(book, plain(book), names)],
                         sorted(len(lot) for lot in slow_least(book, plain(book), names, 14)))

    def test_most(self):
        prices = {("main", k): 1 for k in range(14)}
        self.assertEqual(len(all_least_bars(PAIRS, plain(PAIRS), prices)), 2 ** 7)
        self.assertEqual(len(all_least_bars(PAIRS, plain(PAIRS), prices, most=7)), 2 ** 7)
        self.assertEqual(all_least_bars(PAIRS, plain(PAIRS), prices, most=6), ())
        self.assertEqual(all_least_bars(PAIRS, plain(PAIRS), prices, most=0), ())
        self.assertEqual(all_least_bars(NEST, plain(NEST), {}, most=0), ((),))
        mended = least_bars(PAIRS, plain(PAIRS), prices, most=6)
        self.assertEqual((mended.bars, mended.paper.cost, mended.paper.most), (None, 15, 6))
        self.assertTrue(check_no_cheaper(mended.paper))

    def test_random_books(self):
        seen = {}
        for book, view, prices, most in drawn(881, 250):
            wanted = slow_least(book, view, prices, most)
            self.assertEqual(all_least_bars(book, view, prices, most=most), wanted)
            mended = least_bars(book, view, prices, most=most)
            self.assertEqual(mended.bars, wanted[0] if wanted else None)
            self.assertEqual(mended.cost, sum(prices[name] for name in wanted[0]) if wanted else None)
            paper = mended.paper
            self.assertEqual((paper.book, paper.view, paper.prices, paper.most), (book, view, prices, most))
            self.assertEqual(paper.cost, mended.cost if wanted else 1 + sum(prices.values()))
            self.assertTrue(is_right_paper(paper))
            self.assertIs(check_no_cheaper(paper), True)
            if wanted:
                other = barred(book, wanted[0])
                self.assertEqual(vars(mended.table), vars(court(other, {deed: view[deed] for deed in other.deeds()})))
            seen[len(wanted[0]) if wanted else None] = seen.get(len(wanted[0]) if wanted else None, 0) + 1
        self.assertTrue({0, 1, 2, None} <= set(seen))

    def test_no_ending_goes_first(self):
        for function in (all_least_bars, least_bars):
            with self.assertRaises(NoEnding) as caught:
                function(DEAD, plain(DEAD), {("main", 0): 1})
            self.assertEqual(caught.exception.stage, ("main", 0))


class PaperTest(unittest.TestCase):
    def setUp(self):
        self.book = book_of(read_courses("main: (x) c\nx: a | b | e"))
        self.prices = {name: 1 for name in named(self.book) if name != ("main", 1)}
        self.paper = least_bars(self.book, plain(self.book), self.prices).paper

    def places(self, word):
        return [at for at, node in enumerate(self.paper.nodes) if node[2] == word]

    def test_all_words_occur(self):
        for word in ("dear", "dead", "fault"):
            self.assertTrue(self.places(word), word)
        self.assertEqual(self.paper.nodes[0][:2], ((), ()))
        self.assertTrue(check_no_cheaper(self.paper))
        self.assertTrue(is_right_paper(self.paper))

    def test_the_tree(self):
        nodes = self.paper.nodes
        for told in ((), nodes[1:], nodes[:-1], nodes + nodes[-1:], nodes[::-1], nodes[:1], nodes + (((), (), "dear", None),),
                     nodes[:1] + nodes[2:], nodes[:1] + nodes[1:2] + nodes[1:]):
            self.assertIs(check_no_cheaper(paper_with(self.paper, nodes=told)), False)
        for at in range(len(nodes)):
            bars, kept = nodes[at][:2]
            for told in ({"bars": bars + (("main", 1),)}, {"kept": kept + (("x", 0),)}, {"bars": kept + (("zz", 9),)},
                         {"bars": bars[1:] if bars else (("x", 1),)}, {"kept": (None,)}, {"word": "clear"}, {"word": "zz"}):
                self.assertIs(check_no_cheaper(node_with(self.paper, at, **told)), False, told)

    def test_dear_nodes(self):
        for at in self.places("dear"):
            for why in (7, (("main", 0),), "x", {}):
                self.assertTrue(check_no_cheaper(node_with(self.paper, at, why=why)))
        for cost, wanted in ((self.paper.cost - 1, True), (0, True), (self.paper.cost + 1, False), (10 ** 6, False)):
            self.assertIs(check_no_cheaper(paper_with(self.paper, cost=cost)), wanted)
        self.assertFalse(check_no_cheaper(paper_with(self.paper, prices={name: 0 + (price > 5) for name, price in self.prices.items()})))
        for at in self.places("dead") + self.places("fault"):
            self.assertEqual(check_no_cheaper(node_with(self.paper, at, word="dear")), False)
        # A single dear node is enough if nothing may be cheaper than 0, or no lot may be barred.
        self.assertTrue(check_no_cheaper(paper_with(self.paper, cost=0, nodes=(((), (), "dear", None),))))
        self.assertFalse(check_no_cheaper(paper_with(self.paper, cost=1, nodes=(((), (), "dear", None),))))
        few = least_bars(self.book, plain(self.book), self.prices, most=0).paper
        self.assertTrue(check_no_cheaper(few))
        self.assertTrue(all(node[2] == "dear" for node in few.nodes[1:]))
        self.assertFalse(check_no_cheaper(paper_with(few, most=1)))

    def test_dead_nodes(self):
        for at in self.places("dead"):
            lot = self.paper.nodes[at][3]
            for why, wanted in ((lot[::-1] if len(lot) > 1 else (), False), ((), False), (lot + (("x", 2),), False),
                                (tuple(stage for stage in lot if stage != ("main", 0)), False), (lot + lot[-1:], False),
                                (lot + (None,), False), ((("zz", 0),) + lot, False), (lot, True)):
                self.assertIs(check_no_cheaper(node_with(self.paper, at, why=why)), wanted, why)
        for at in self.places("fault"):
            for why in ((("main", 0),), tuple(self.book.stages())):
                self.assertFalse(check_no_cheaper(node_with(self.paper, at, word="dead", why=why)))

    def test_faults(self):
        for at in self.places("fault"):
            fault = self.paper.nodes[at][3]
            first, second, place, numbers = fault.first, fault.second, fault.place, fault.numbers
            stage = moments_of(self.book, first)[place][0]
            for told in ({"place": place + 1}, {"place": len(first)}, {"place": 10 ** 9}, {"first": ()}, {"second": ()},
                         {"first": first[:-1]}, {"second": second + (("leave",),)}, {"first": second}, {"second": first},
                         {"first": (("do", 99),)}, {"first": (("leave",),)}, {"second": (("call", -1),)}, {"numbers": {}},
                         {"numbers": {**numbers, stage: numbers[stage] + 1}}, {"numbers": {**numbers, stage: numbers[stage] - 1}},
                         {"numbers": {key: numbers[key] for key in numbers if key != stage}},
                         {"numbers": {**numbers, ("x", 1): 1}}, {"numbers": {**numbers, ("main", 0): 50}}):
                changed = node_with(self.paper, at, why=fault_with(fault, **told))
                self.assertIs(check_no_cheaper(changed), is_right_paper_or_false(changed), told)
                self.assertFalse(check_no_cheaper(changed), told)
            for why in (None, (), "fault", first):
                self.assertIs(check_no_cheaper(node_with(self.paper, at, why=why)), False)
            # Lower numbers elsewhere are bounds, too.
            lower = {key: number if key == stage else number - 3 for key, number in numbers.items()}
            changed = node_with(self.paper, at, why=fault_with(fault, numbers=lower))
            self.assertIs(check_no_cheaper(changed), is_right_paper_or_false(changed))

    def test_changed_papers(self):
        rng = random.Random(882)
        seen = [0, 0]
        for book, view, prices, most in drawn(883, 150):
            paper = least_bars(book, view, prices, most=most).paper
            places = [at for at, node in enumerate(paper.nodes) if node[2] == "fault"]
            if not places:
                continue
            for _ in range(4):
                at = rng.choice(places)
                fault = paper.nodes[at][3]
                keys = sorted(fault.numbers)
                told = rng.choice([{"place": max(0, fault.place + rng.choice([-1, 1]))},
                                   {"numbers": {**fault.numbers, rng.choice(keys): rng.randint(0, 3)}},
                                   {"numbers": {key: fault.numbers[key] for key in rng.sample(keys, len(keys) - 1)}},
                                   {"first": fault.second, "second": fault.first},
                                   {"numbers": {key: number - rng.choice([0, 0, 1]) for key, number in fault.numbers.items()}}])
                changed = node_with(paper, at, why=fault_with(fault, **told))
                wanted = is_right_paper_or_false(changed)
                self.assertIs(check_no_cheaper(changed), wanted)
                seen[wanted] += 1
        self.assertGreater(min(seen), 15)

    def test_fault_by_a_run_that_makes_a_barred_step(self):
        at = [k for k in self.places("fault") if self.paper.nodes[k][0]][0]
        fault = self.paper.nodes[0][3]
        self.assertFalse(check_no_cheaper(node_with(self.paper, at, why=fault)))

    def test_dead_books(self):
        paper = NoCheaper(DEAD, plain(DEAD), {}, 14, 1, (((), (), "dead", (("main", 0),)),))
        self.assertTrue(check_no_cheaper(paper))
        self.assertTrue(check_no_cheaper(paper_with(paper, nodes=(((), (), "dead", (("main", 0),)),))))
        self.assertFalse(check_no_cheaper(paper_with(paper, nodes=(((), (), "dead", (("main", 1),)),))))


def is_right_paper_or_false(paper):
    """As `is_right_paper`, for runs that are none at all."""
    try:
        return bool(is_right_paper(paper))
    except (IndexError, TypeError, KeyError):
        return False


class ObjectsTest(unittest.TestCase):
    def test_attributes(self):
        numbers, view, prices = {("m", 0): 1}, {"a": ()}, {("m", 0): 3}
        fault, paper = Fault(1, (), (), numbers), NoCheaper(ORDER, view, prices, 14, 3, ())
        for told in (numbers, view, prices):
            told.clear()
        self.assertEqual(vars(fault), {"place": 1, "first": (), "second": (), "numbers": {("m", 0): 1}})
        self.assertEqual(vars(paper), {"book": ORDER, "view": {"a": ()}, "prices": {("m", 0): 3}, "most": 14, "cost": 3, "nodes": ()})
        self.assertEqual(vars(Mended(1, 2, 3, 4)), {"bars": 1, "cost": 2, "table": 3, "paper": 4})


def book_at_limits(rng):
    """A book with 3 courses, 12 stages and up to 30 steps."""
    sizes = rng.choice([(4, 4, 4), (6, 3, 3), (8, 2, 2)])
    made = []
    for name, many, most in zip(("main", "x", "y"), sizes, (12, 9, 9)):
        steps = []
        for _ in range(200):
            a, b = rng.randrange(many), rng.randrange(many)
            step = (a, "call", rng.choice(["main", "x", "y"]), b) if rng.random() < 0.3 else (a, "do", rng.choice("abcde"), b)
            if step not in steps and (b > a or rng.random() < 0.3) and len(steps) < most:
                steps.append(step)
        made.append((name, many, (many - 1,), tuple(steps)))
    return Book(tuple(made))


class LimitsTest(unittest.TestCase):
    def test_at_the_limits(self):
        began = time.time()
        rng = random.Random(884)
        for _ in range(150):
            book = book_at_limits(rng)
            if (book.main(), 0) in brute.useful(book):
                prices = {name: rng.choice([1, rng.randint(1, 1000)]) for name in rng.sample(named(book), min(14, len(named(book))))}
                view = plain(book) if rng.random() < 0.7 else brute.random_view(rng, book, 3)
                self.assertTrue(check_no_cheaper(least_bars(book, view, prices).paper))
        for prices in ({("main", k): 1 for k in range(14)}, {("main", k): 1 + k for k in range(14)}):
            mended = least_bars(PAIRS, plain(PAIRS), prices)
            self.assertEqual(len(mended.bars), 7)
            self.assertTrue(check_no_cheaper(mended.paper))
        many = one_course(2, (1,), *[do(0, letter, 1) for letter in "abcdefghijkl"])
        self.assertEqual(least_bars(many, plain(many), {("main", k): 1 + k for k in range(12)}).bars,
                         tuple(("main", k) for k in range(11)))
        self.assertLess(time.time() - began, 10)


if __name__ == "__main__":
    unittest.main()
