"""Which counts are cheapest at some prices."""

from math import gcd

from stillowed.counts import is_at_most
from stillowed.kinds import is_number
from stillowed.prices import price_of


class Corner:
    """Prices at which no count is cheaper than a certain one."""

    def __init__(self, prices):
        self.prices = prices


class Mixed:
    """How often to take each count, so that together they are less than a certain one taken as often."""

    def __init__(self, shares):
        self.shares = shares


def corner(counts, at):
    """Some Corner of the count number `at`, some Mixed if there is none."""
    search = ConeSearch(counts, at)
    rising = search.rising()
    while rising is not None:
        line = search.leaving(rising)
        if line is None:
            return Mixed(search.shares(rising))
        search.turn(line, rising)
        rising = search.rising()
    return Corner(search.prices())


class ConeSearch:
    """A simplex search for shares of counts that together have as little as possible beyond a certain count's.

    There is a line for each deed and a column for each share, then for each deed's slack: how much less the shares
    have of it. A line says that both together are 0. The search raises the sum of the slacks: it stays at 0, and
    then its multipliers are prices, or it grows for ever, along shares. All numbers are integers over one
    denominator, which the pivots divide without rest. The first columns and lines are taken, so that the search
    comes to an end.
    """

    def __init__(self, counts, at):
        self.shared = len(counts)
        deeds = range(len(counts[at]))
        self.lines = [[count[deed] - counts[at][deed] for count in counts] + [1 if deed == one else 0 for one in deeds]
                      for deed in deeds]
        self.gains = [sum(counts[at]) - sum(count) for count in counts] + [0 for _ in deeds]
        self.basis = [self.shared + deed for deed in deeds]
        self.denominator = 1

    def rising(self):
        """The first column that raises the sum of the slacks, None if none does."""
        for column, gain in enumerate(self.gains):
            if gain > 0:
                return column
        return None

    def leaving(self, column):
        """The line whose variable comes first of those that a column takes below 0, None if there is none."""
        found = [(self.basis[at], at) for at, line in enumerate(self.lines) if line[column] > 0]
        return min(found)[1] if found else None

    def turn(self, at, column):
        """Put the variable of a column into the basis, in the place of that of a line."""
        chosen = self.lines[at]
        self.lines = [line if other == at else self.reduced(line, chosen, column)
                      for other, line in enumerate(self.lines)]
        self.gains = self.reduced(self.gains, chosen, column)
        self.basis[at] = column
        self.denominator = chosen[column]

    def reduced(self, line, chosen, column):
        """A line without the column's variable, which is struck by means of the chosen line."""
        factor = line[column]
        pivot = chosen[column]
        return [(number * pivot - factor * other) // self.denominator for number, other in zip(line, chosen)]

    def prices(self):
        """The prices, when nothing raises the sum."""
        return lowest_terms([self.denominator - gain for gain in self.gains[self.shared:]])

    def shares(self, column):
        """The shares along which the sum grows for ever by a column."""
        found = [0] * len(self.gains)
        found[column] = self.denominator
        for variable, line in zip(self.basis, self.lines):
            found[variable] = -line[column]
        return lowest_terms(found[:self.shared])


def lowest_terms(numbers):
    """The numbers divided by their greatest common divisor."""
    common = 0
    for number in numbers:
        common = gcd(common, number)
    return tuple([number // max(1, common) for number in numbers])


def corners(counts):
    """The lot of the numbers of the counts that have a Corner."""
    return tuple([at for at in range(len(counts)) if isinstance(corner(counts, at), Corner)])


def check_corner(counts, at, value):
    """Whether any value is a Corner or a Mixed of the count number `at`."""
    if isinstance(value, Corner):
        return is_corner(counts, at, value.prices)
    return isinstance(value, Mixed) and is_mixed(counts, at, value.shares)


def are_numbers(value, many):
    """Whether any value is a tuple of so many numbers."""
    return isinstance(value, tuple) and len(value) == many and all([is_number(number) for number in value])


def is_corner(counts, at, prices):
    """Whether any value is a tuple of prices from 1 on at which no count is cheaper."""
    if not are_numbers(prices, len(counts[at])) or 0 in prices:
        return False
    least = price_of(prices, counts[at])
    return all([price_of(prices, count) >= least for count in counts])


def is_mixed(counts, at, shares):
    """Whether any value is a tuple of shares with which the counts have less than the count number `at`."""
    if not are_numbers(shares, len(counts)):
        return False
    every = sum(shares)
    together = [price_of(shares, [count[deed] for count in counts]) for deed in range(len(counts[at]))]
    alone = [number * every for number in counts[at]]
    return is_at_most(together, alone) and together != alone
