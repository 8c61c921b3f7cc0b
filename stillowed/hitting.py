"""The search for the least bars: lots of steps that hit all faults of a book."""

from heapq import heappop, heappush

from stillowed.faults import FaultFinder, FoundFault, bit_count


class BarSearch:
    """Goes through the lots of steps with a price, the cheaper ones first, as nodes of a tree.

    A node (bars, kept), both told by bits, stands for the lots that hold `bars` and no step of `kept`. Below one with
    a fault there is a node for each step of its runs that could be barred; other lots do not mend the book.
    """

    def __init__(self, book, view, prices, most):
        self.finder = FaultFinder(book, view, prices)
        self.prices = [prices[name] for name in self.finder.names]
        self.most = most
        self.faults = []
        self.dead_ends = []
        # For each node with a lesser price than the least bars: the lot of stages, or the fault, by its bars.
        self.known = {}
        self.least = None
        self.lots = []
        self.search()

    def search(self):
        """Find the least price and all lots that have it."""
        queue = [(0, 0, 0)]
        while queue:
            price, bars, kept = heappop(queue)
            if self.least is not None and price > self.least:
                return
            if bit_count(bars) > self.most:
                continue
            found = self.found_before(bars, kept)
            if found is None:
                found = self.finder.fault(bars, kept)
                self.keep(found, bars)
            if found is None:
                self.least = price
                self.lots.append(bars)
                continue
            self.known[bars] = found
            for child in self.children(bars, kept, found):
                heappush(queue, (self.price_of(child[0]),) + child)

    def keep(self, found, bars):
        """Keep a fault or a lot of stages for other nodes."""
        if isinstance(found, FoundFault):
            self.faults.append(found)
        elif found is not None:
            self.dead_ends.append((bars, found))

    def found_before(self, bars, kept):
        """A lot of stages or a fault found at a node with fewer bars that holds here, too; None if there is none.

        Of several faults it is one below which there are the fewest nodes.
        """
        for fewer, lot in self.dead_ends:
            if fewer & ~bars == 0:
                return lot
        best = None
        least = len(self.prices) + 1
        for fault in self.faults:
            if fault.bars & ~bars == 0 and fault.bits & bars == 0:
                many = bit_count(fault.bits & ~kept)
                if many < least:
                    best = fault
                    least = many
        return best

    def children(self, bars, kept, found):
        """The nodes below a node, in ascending order."""
        nodes = []
        if isinstance(found, FoundFault):
            left = found.bits & ~kept
            while left:
                bit = left & -left
                nodes.append((bars | bit, kept))
                kept |= bit
                left &= left - 1
        return nodes

    def price_of(self, bits):
        """The price of a lot."""
        return sum([price for at, price in enumerate(self.prices) if (bits >> at) & 1])

    def lot_of(self, bits):
        """The lot of names that some bits tell."""
        return tuple([name for at, name in enumerate(self.finder.names) if (bits >> at) & 1])

    def nodes(self, cost):
        """All nodes of the tree for a cost, each followed by those below it: (bars, kept, what was found or None)."""
        found = []
        waiting = [(0, 0)]
        while waiting:
            bars, kept = waiting.pop()
            if self.price_of(bars) >= cost or bit_count(bars) > self.most:
                found.append((bars, kept, None))
            else:
                found.append((bars, kept, self.known[bars]))
                waiting.extend(list(reversed(self.children(bars, kept, self.known[bars]))))
        return found
