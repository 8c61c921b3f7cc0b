"""Prices of deeds: cheapest endings, and what is cheapest while one deed gets dearer."""

from stillowed.costs import check_weights, least_ways, least_weights, sound_order
from stillowed.counts import added, deed_counts
from stillowed.kinds import ascending
from stillowed.steps import parts_of


def least_prices(book, prices):
    """A dict from each useful stage to the least price of its endings."""
    return least_weights(book, prices)


def price_ways(book, prices):
    """A dict from each useful stage to its first way with the least cost."""
    return least_ways(book, prices)


def counts_along(book, chosen):
    """A dict from the keys of a sound dict of ways to the counts of the rows that the ways make."""
    units = {deed: deed_counts(book, (deed,)) for deed in book.deeds()}
    empty = deed_counts(book, ())
    found = {}
    for stage in sound_order(book, chosen):
        found[stage] = empty
        if chosen[stage] != ("end",):
            step = book.steps(stage[0])[chosen[stage][1]]
            if step[1] == "do":
                found[stage] = units[step[2]]
            for part in parts_of(stage[0], step):
                found[stage] = added(found[stage], found[part])
    return ascending(found)


def check_prices(book, prices, table, chosen):
    """Whether a table of least prices and a sound dict of ways prove each other."""
    return check_weights(book, prices, table, chosen)


def price_of(prices, count):
    """The price of a count."""
    return sum([price * number for price, number in zip(prices, count)])


def price_steps(counts, prices, place):
    """The pairs (price, choice) at which another count becomes the choice while the price of one deed rises from 0."""
    others = prices[:place] + (0,) + prices[place + 1:]
    bases = [price_of(others, count) for count in counts]
    numbers = [count[place] for count in counts]
    price = 0
    found = []
    while True:
        choice = choice_at(bases, numbers, price)
        found.append((price, choice))
        # A count with fewer of the deed is dearer now; it is the choice at the latest where it costs the same.
        later = [ceiling(bases[at] - bases[choice], numbers[choice] - number)
                 for at, number in enumerate(numbers) if number < numbers[choice]]
        if not later:
            return tuple(found)
        price = min(later)


def choice_at(bases, numbers, price):
    """The number of the cheapest count; of several, that of the fewest of the deed, then the first."""
    return min([(base + price * numbers[at], numbers[at], at) for at, base in enumerate(bases)])[2]


def ceiling(number, divisor):
    """The least integer that is not below the quotient of two integers, the second one above 0."""
    return -(-number // divisor)
