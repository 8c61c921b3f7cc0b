"""What is surely owed by all that is seen of a run."""

from heapq import heappop, heappush

from stillowed.errors import Refused
from stillowed.kinds import copied, is_number_to
from stillowed.linkage import LinkGraph, rests_on, smallest_moment, visible_graph
from stillowed.piles import is_possible
from stillowed.rows import LONGEST_COMMON, common_all


class Sure:
    """The greatest sure rows, moments that show that there are no others, and for each row numbers that show it."""

    def __init__(self, rows, witnesses, holdings):
        self.rows = rows
        self.witnesses = witnesses
        self.holdings = copied_all(holdings)


def copied_all(values):
    """A tuple with copies of the dicts of a tuple, any other value itself."""
    return tuple([copied(value) for value in values]) if isinstance(values, tuple) else values


def lowest(piles):
    """Some moment with the fewest stages that fits."""
    graph = visible_graph(piles)
    return smallest_moment(graph, {stage: 1 for stage in piles.book.stages()})


def least_owing(table, piles):
    """Some moment that fits and owes the fewest deeds."""
    return smallest_moment(visible_graph(piles), {stage: len(table.rows[stage]) for stage in table.rows})


class RowHoldings:
    """For a row, how many of its last deeds at least the rests on the ways to each frame hold."""

    def __init__(self, table, graph, row):
        self.table = table
        self.graph = graph
        self.row = row
        self.known = {}
        # As of `nearest`: the number, and the arrival.
        self.found = {}
        queue = [(0, graph.first, ())]
        while queue:
            number, frame, arrival = heappop(queue)
            if frame not in self.found:
                self.found[frame] = (number, arrival)
                for stage, inner in graph.onward[frame]:
                    if inner not in self.found:
                        heappush(queue, (self.through(number, stage), inner, (frame, stage)))

    def through(self, number, stage):
        """How many of the last deeds are held with a stage before what holds so many."""
        if (number, stage) not in self.known:
            held = number
            for deed in reversed(self.table.rows[stage]):
                if held < len(self.row) and self.row[len(self.row) - 1 - held] == deed:
                    held += 1
            self.known[(number, stage)] = held
        return self.known[(number, stage)]

    def numbers(self):
        """A dict from each frame to its number."""
        return {frame: self.found[frame][0] for frame in self.graph.onward}

    def missing_at(self):
        """A moment that fits and does not hold the row, None if there is none."""
        if self.graph.over and self.row != ():
            return ()
        for frame in sorted(self.graph.tops):
            for stage in self.graph.tops[frame]:
                if self.through(self.found[frame][0], stage) < len(self.row):
                    return (stage,) + rests_on(self.found, frame)
        return None

    def are_numbers(self, numbers):
        """Whether a dict from frames to integers shows that the row is sure."""
        if not all([is_number_to(numbers.get(frame), len(self.row)) for frame in self.graph.onward]):
            return False
        if numbers[self.graph.first] != 0 or (self.graph.over and self.row != ()):
            return False
        for frame in self.graph.onward:
            for stage, inner in self.graph.onward[frame]:
                if numbers[inner] > self.through(numbers[frame], stage):
                    return False
            for stage in self.graph.tops.get(frame, ()):
                if self.through(numbers[frame], stage) != len(self.row):
                    return False
        return True


def unsure(table, piles, row):
    """None if the row is sure, otherwise some moment that fits and does not hold it."""
    return RowHoldings(table, visible_graph(piles), row).missing_at()


def sure(table, piles):
    """The greatest sure rows, with what shows that they are."""
    graph = visible_graph(piles)
    first = smallest_moment(graph, {stage: len(table.rows[stage]) for stage in table.rows})
    if len(table.owed(first)) > LONGEST_COMMON:
        raise Refused("long")
    witnesses = [first]
    holdings = {}
    while True:
        rows = common_all([table.owed(moment) for moment in witnesses])
        moment = None
        for row in rows:
            if row not in holdings and moment is None:
                found = RowHoldings(table, graph, row)
                moment = found.missing_at()
                holdings[row] = found.numbers()
        if moment is None:
            return Sure(rows, tuple(witnesses), tuple([holdings[row] for row in rows]))
        witnesses.append(moment)


def check_sure(table, piles, value):
    """Whether a Sure has all the properties of what `sure` returns."""
    graph = LinkGraph(piles)
    if not graph.is_visible() or not value.witnesses or len(value.holdings) != len(value.rows):
        return False
    if not all([is_possible(piles, moment) for moment in value.witnesses]):
        return False
    owed_rows = [table.owed(moment) for moment in value.witnesses]
    if min([len(row) for row in owed_rows]) > LONGEST_COMMON or common_all(owed_rows) != value.rows:
        return False
    pairs = zip(value.rows, value.holdings)
    return all([RowHoldings(table, graph, row).are_numbers(numbers) for row, numbers in pairs])


def carried(table, seen, row, deed):
    """What is left of a sure row behind one more seen deed, and is sure then."""
    for shown in table.view[deed]:
        if row[:1] == (shown,):
            row = row[1:]
    unseen = {shown: True for word in table.book.deeds() if word not in seen for shown in table.view[word]}
    while row and row[0] in unseen:
        row = row[1:]
    return row
