"""[48], [49], [52]: prices of endings, and what is cheapest while one deed gets dearer."""

import random
import time
import unittest

import brute
from samples import ORDER, TORN, do, full_book, one_course, tall
from stillowed.lengths import check_lengths, lengths, plain, rows_along, ways
from stillowed.prices import check_prices, counts_along, least_prices, price_steps, price_ways
from test_lengths import costs as slow_costs
from test_lengths import way_costs


def random_prices(rng, book):
    top = rng.choice([1, 3, 10, 10 ** 30])
    return {deed: rng.randint(0, top) for deed in book.deeds()}


class LeastPricesTest(unittest.TestCase):
    def test_small_books(self):
        prices = {"card": 5, "stamp": 0, "cash": 2, "other": 7}
        self.assertEqual(least_prices(TORN, prices),
                         {("main", 0): 2, ("main", 1): 0, ("main", 2): 0, ("main", 3): 0})
        self.assertEqual(price_ways(TORN, prices), {("main", 0): ("step", 1), ("main", 1): ("end",),
                                                    ("main", 2): ("step", 2), ("main", 3): ("end",)})
        # At equal prices fewer steps count, then the number of the step.
        self.assertEqual(price_ways(TORN, {"card": 2, "stamp": 0, "cash": 2})[("main", 0)], ("step", 0))
        self.assertEqual(price_ways(TORN, {"card": 0, "stamp": 0, "cash": 0})[("main", 0)], ("step", 0))
        book = one_course(2, (1,), do(0, "a", 1), do(0, "b", 1))
        self.assertEqual(price_ways(book, {"a": 1, "b": 1})[("main", 0)], ("step", 0))
        self.assertEqual(price_ways(book, {"a": 1, "b": 0})[("main", 0)], ("step", 1))
        self.assertEqual(least_prices(book, {"a": 10 ** 50, "b": 10 ** 50 - 1})[("main", 0)], 10 ** 50 - 1)

    def test_random_books(self):
        rng = random.Random(481)
        for book in brute.mixed_books(481, 200):
            prices = random_prices(rng, book)
            # Prices are as lengths: the slow answer takes a view whose rows have these lengths.
            small = {deed: prices[deed] % 4 for deed in prices}
            view = {deed: ("x",) * small[deed] for deed in small}
            self.assertEqual(least_prices(book, small), lengths(book, view))
            self.assertEqual(price_ways(book, small), ways(book, view))
            costs = slow_costs(book, view)
            self.assertEqual(least_prices(book, small), {stage: costs[stage][0] for stage in sorted(costs)})
            firsts = {stage: [way for way, cost in way_costs(book, view, costs, stage) if cost == costs[stage]][0]
                      for stage in costs}
            self.assertEqual(price_ways(book, small), firsts)
            self.assertEqual(least_prices(book, {**prices, "zzzzz": 3}), least_prices(book, prices))
            scaled = least_prices(book, {deed: price * 7 for deed, price in prices.items()})
            self.assertEqual(scaled, {stage: 7 * price for stage, price in least_prices(book, prices).items()})

    def test_prices_are_those_of_endings(self):
        rng = random.Random(482)
        for book in brute.mixed_books(482, 120):
            prices = {deed: rng.randint(1, 9) for deed in book.deeds()}
            listed = brute.endings(book, 4)
            found = least_prices(book, prices)
            self.assertEqual(list(found), sorted(brute.useful(book)))
            for stage in found:
                told = [sum(prices[deed] for deed in row) for row in listed[stage]]
                self.assertLessEqual(found[stage], min(told, default=found[stage]))
                if found[stage] <= 4:
                    self.assertEqual(found[stage], min(told))


class CountsAlongTest(unittest.TestCase):
    def test_small_books(self):
        chosen = price_ways(ORDER, {"take": 1, "card": 1, "stamp": 1, "send": 1})
        found = counts_along(ORDER, chosen)
        self.assertEqual(found[("order", 0)], (1, 1, 0, 1))
        self.assertEqual(found[("pay", 2)], (0, 0, 1, 0))
        self.assertEqual(list(found), sorted(chosen))
        self.assertEqual(counts_along(ORDER, {}), {})

    def test_random_books(self):
        rng = random.Random(483)
        for book in brute.mixed_books(483, 200):
            chosen = price_ways(book, random_prices(rng, book))
            rows = rows_along(book, plain(book), chosen)
            wanted = {stage: tuple(rows[stage].count(deed) for deed in sorted(book.deeds())) for stage in rows}
            turned = {stage: chosen[stage] for stage in reversed(list(chosen))}
            self.assertEqual(list(counts_along(book, turned).items()), sorted(wanted.items()))

    def test_very_long_rows(self):
        book = tall((8, 8, 8, 8, 7, 7, 7, 7))
        found = counts_along(book, ways(book, plain(book)))
        self.assertEqual(found[("a", 0)], (7 ** 4 * 6 ** 4,))
        self.assertEqual(found[("a", 7)], (0,))
        self.assertEqual(least_prices(book, {"x": 10 ** 20})[("a", 0)], 10 ** 20 * 7 ** 4 * 6 ** 4)


class CheckPricesTest(unittest.TestCase):
    def test_what_is_returned_passes(self):
        rng = random.Random(491)
        for book in brute.mixed_books(491, 200):
            prices = random_prices(rng, book)
            self.assertTrue(check_prices(book, {**prices, "z": 0}, least_prices(book, prices), price_ways(book, prices)))

    def test_changed_tables(self):
        rng = random.Random(492)
        seen = 0
        for book in brute.mixed_books(492, 200):
            prices = random_prices(rng, book)
            table, chosen = least_prices(book, prices), price_ways(book, prices)
            if not table:
                continue
            stage = rng.choice(sorted(table))
            for number in (table[stage] - 1, table[stage] + 1, -1):
                self.assertFalse(check_prices(book, prices, {**table, stage: number}, chosen))
            fewer = {key: table[key] for key in table if key != stage}
            self.assertFalse(check_prices(book, prices, fewer, chosen))
            fewer_ways = {key: chosen[key] for key in chosen if key != stage}
            self.assertFalse(check_prices(book, prices, table, fewer_ways))
            self.assertFalse(check_prices(book, prices, fewer, fewer_ways))
            for way in [("end",)] + [("step", k) for k in range(8)]:
                other = {**chosen, stage: way}
                if check_prices(book, prices, table, other):
                    # Another sound way with the same price.
                    counts = counts_along(book, other)
                    prices_along = [prices[deed] for deed in book.deeds()]
                    for key in table:
                        self.assertEqual(sum(a * b for a, b in zip(prices_along, counts[key])), table[key])
                    seen += way != chosen[stage]
        self.assertGreater(seen, 5)

    def test_another_sound_way(self):
        book = one_course(3, (2,), do(0, "a", 2), do(0, "b", 1), do(1, "b", 2), do(1, "c", 1))
        prices = {"a": 4, "b": 2, "c": 0}
        table, chosen = least_prices(book, prices), price_ways(book, prices)
        self.assertEqual(chosen[("main", 0)], ("step", 0))
        self.assertTrue(check_prices(book, prices, table, {**chosen, ("main", 0): ("step", 1)}))
        # The step 3 is a ring: its way comes back to the stage.
        self.assertFalse(check_prices(book, prices, table, {**chosen, ("main", 1): ("step", 3)}))
        self.assertFalse(check_prices(book, {**prices, "b": 1}, table, chosen))
        self.assertFalse(check_prices(book, {**prices, "b": 3}, table, chosen))
        self.assertTrue(check_prices(book, {**prices, "b": 3}, {**table, ("main", 1): 3}, chosen))
        for way in (("step", 4), ("step", 10 ** 30), ("end",), ("step", 2)):
            self.assertFalse(check_prices(book, prices, table, {**chosen, ("main", 0): way}))

    def test_dead_books(self):
        book = one_course(2, (), do(0, "a", 1))
        self.assertTrue(check_prices(book, {"a": 1}, {}, {}))
        self.assertFalse(check_prices(book, {"a": 1}, {("main", 1): 0}, {("main", 1): ("end",)}))
        self.assertEqual((least_prices(book, {"a": 3}), price_ways(book, {"a": 3})), ({}, {}))

    def test_lengths_are_prices_of_one(self):
        for book in brute.mixed_books(493, 40):
            ones = {deed: 1 for deed in book.deeds()}
            self.assertEqual(least_prices(book, ones), lengths(book, plain(book)))
            self.assertTrue(check_lengths(book, plain(book), least_prices(book, ones), price_ways(book, ones)))


def slow_steps(counts, prices, place, most):
    """The choices at each price up to `most`, by the words of [52]."""
    found = []
    for price in range(most + 1):
        now = [price if at == place else one for at, one in enumerate(prices)]
        costs = [sum(a * b for a, b in zip(now, count)) for count in counts]
        cheapest = [at for at in range(len(counts)) if costs[at] == min(costs)]
        fewest = min(counts[at][place] for at in cheapest)
        choice = [at for at in cheapest if counts[at][place] == fewest][0]
        if not found or found[-1][1] != choice:
            found.append((price, choice))
    return tuple(found)


class PriceStepsTest(unittest.TestCase):
    def test_the_example(self):
        self.assertEqual(price_steps(((0, 4), (1, 1), (4, 0)), (0, 6), 0), ((0, 2), (2, 1), (18, 0)))

    def test_edges(self):
        self.assertEqual(price_steps(((5,),), (3,), 0), ((0, 0),))
        # Counts that are there twice, and counts with an equal number of the deed.
        self.assertEqual(price_steps(((1, 1), (1, 1), (0, 3), (0, 3)), (9, 1), 0), ((0, 0), (2, 2)))
        self.assertEqual(price_steps(((1, 2), (1, 1), (0, 3)), (9, 1), 0), ((0, 1), (2, 2)))
        # The middle one is passed over: another one is cheaper as soon as it is cheaper than the first.
        self.assertEqual(price_steps(((4, 0), (2, 3), (0, 4)), (0, 1), 0), ((0, 0), (1, 2)))
        self.assertEqual(price_steps(((2, 0), (1, 5), (0, 6)), (0, 1), 0), ((0, 0), (3, 2)))
        # At the price of equal costs the one with fewer of the deed is chosen, also at 0.
        self.assertEqual(price_steps(((1, 0), (0, 0)), (0, 0), 0), ((0, 1),))
        self.assertEqual(price_steps(((3, 1), (1, 1)), (5, 0), 0), ((0, 1),))
        self.assertEqual(price_steps(((2, 10 ** 40), (3, 0)), (1, 1), 0), ((0, 1), (10 ** 40, 0)))
        self.assertEqual(price_steps(((4, 0), (3, 4), (0, 4)), (1, 0), 1), ((0, 2), (1, 0)))

    def test_the_price_of_the_deed_itself_does_not_matter(self):
        counts = ((4, 0, 1), (2, 1, 1), (0, 5, 0))
        self.assertEqual(price_steps(counts, (0, 2, 1), 0), price_steps(counts, (99, 2, 1), 0))

    def test_random_counts(self):
        rng = random.Random(521)
        steps = 0
        for _ in range(600):
            deeds = rng.randint(1, 3)
            top = rng.choice([2, 5, 9])
            counts = tuple(tuple(rng.randint(0, top) for _ in range(deeds)) for _ in range(rng.randint(1, 9)))
            prices = tuple(rng.randint(0, 4) for _ in range(deeds))
            place = rng.randrange(deeds)
            found = price_steps(counts, prices, place)
            self.assertEqual(found, slow_steps(counts, prices, place, 4 * 9 * 3 + 2))
            numbers = [counts[choice][place] for _, choice in found]
            self.assertEqual(numbers, sorted(set(numbers), reverse=True))
            steps += len(found)
        self.assertGreater(steps, 700)


class LimitsTest(unittest.TestCase):
    def test_at_the_limits(self):
        began = time.time()
        rng = random.Random(494)
        for _ in range(20):
            book = full_book(rng)
            prices = random_prices(rng, book)
            table, chosen = least_prices(book, prices), price_ways(book, prices)
            self.assertTrue(check_prices(book, prices, table, chosen))
            counts_along(book, chosen)
        counts = tuple(tuple(rng.randint(0, 10 ** 6) for _ in range(12)) for _ in range(2000))
        price_steps(counts, (1,) * 12, 3)
        self.assertLess(time.time() - began, 10)


if __name__ == "__main__":
    unittest.main()
