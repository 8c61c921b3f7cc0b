"""Least bars: the cheapest steps without which a book is clear, and papers that show that none are cheaper."""

from stillowed.changes import without_steps
from stillowed.faults import FoundFault
from stillowed.hitting import BarSearch
from stillowed.kinds import copied, is_lot, row_order
from stillowed.lists import row_by
from stillowed.moving import stages_before
from stillowed.owed import court
from stillowed.rows import within
from stillowed.steps import all_in, parts_of
from stillowed.useful import ranks, ranks_from_start


class Fault:
    """Two runs, alike in the first `place` moves, behind which they show that no row is owed there.

    The numbers show that what the first run does there is a shortest ending.
    """

    def __init__(self, place, first, second, numbers):
        self.place = place
        self.first = first
        self.second = second
        self.numbers = copied(numbers)


class NoCheaper:
    """Nodes that show that no lot of steps that mends a book is cheaper than a cost."""

    def __init__(self, book, view, prices, most, cost, nodes):
        self.book = book
        self.view = copied(view)
        self.prices = copied(prices)
        self.most = most
        self.cost = cost
        self.nodes = nodes


class Mended:
    """The first of the cheapest lots of steps that mend a book, its price, the table then, and a paper."""

    def __init__(self, bars, cost, table, paper):
        self.bars = bars
        self.cost = cost
        self.table = table
        self.paper = paper


def all_least_bars(book, view, prices, *, most=14):
    """The tuple of the cheapest lots of steps that mend a book, those with fewer steps first."""
    ranks_from_start(book)
    return lots_found(BarSearch(book, view, prices, most))


def lots_found(search):
    """The lots that a search has found, those with fewer steps first."""
    return tuple(sorted([search.lot_of(bits) for bits in search.lots], key=row_order))


def least_bars(book, view, prices, *, most=14):
    """The first of the cheapest lots of steps that mend a book, with a paper that shows that none are cheaper."""
    ranks_from_start(book)
    search = BarSearch(book, view, prices, most)
    lots = lots_found(search)
    cost = search.least if lots else 1 + sum([prices[name] for name in prices])
    paper = NoCheaper(book, view, prices, most, cost, paper_nodes(search, cost))
    if not lots:
        return Mended(None, None, None, paper)
    mended = without_steps(book, {name: True for name in lots[0]})
    table = court(mended, {deed: view[deed] for deed in mended.deeds()})
    return Mended(lots[0], cost, table, paper)


def paper_nodes(search, cost):
    """The nodes of a paper."""
    return tuple([(search.lot_of(bars), search.lot_of(kept)) + told(found) for bars, kept, found in search.nodes(cost)])


def told(found):
    """The word and the reason of a node, by what was found there."""
    if found is None:
        return ("dear", None)
    if isinstance(found, FoundFault):
        return ("fault", Fault(found.place, found.first, found.second, found.numbers))
    return ("dead", found)


def check_no_cheaper(paper):
    """Whether the nodes of a paper are those of a tree that shows that no cheaper lot mends the book."""
    check = PaperCheck(paper)
    awaited = [((), ())]
    for bars, kept, word, why in paper.nodes:
        if not awaited or (bars, kept) != awaited[-1]:
            return False
        awaited.pop()
        if word == "fault":
            below = check.below_fault(bars, kept, why)
            if below is None:
                return False
            awaited.extend(list(reversed(below)))
        elif not (word == "dear" and check.is_dear(bars)) and not (word == "dead" and check.is_dead(bars, why)):
            return False
    return not awaited


class PaperCheck:
    """Checks single nodes of a paper."""

    def __init__(self, paper):
        self.paper = paper
        self.book = paper.book
        self.useful = ranks(self.book)
        self.known = {}
        # For each step (its name, the stage that it leaves, its parts, how many deeds are shown).
        self.listed = []
        for course in self.book.names():
            for k, step in enumerate(self.book.steps(course)):
                shown = len(paper.view[step[2]]) if step[1] == "do" else 0
                self.listed.append(((course, k), (course, step[0]), parts_of(course, step), shown))

    def is_dear(self, bars):
        """Whether a lot is as dear as the cost, or greater than may be."""
        return sum([self.paper.prices[bar] for bar in bars]) >= self.paper.cost or len(bars) > self.paper.most

    def is_dead(self, bars, stages):
        """Whether a tuple is a lot of stages that shows that the start has no ending without some steps."""
        if not all([self.book.is_stage(stage) for stage in stages]) or not is_lot(stages):
            return False
        return (self.book.main(), 0) in stages and self.is_closed(bars, {stage: True for stage in stages})

    def is_closed(self, bars, lot):
        """Whether no course may end in a lot, and no step that is left leads out of it."""
        if any([self.book.is_end(stage) for stage in lot]):
            return False
        for name, stage, parts, _ in self.listed:
            if stage in lot and name not in bars and not any([part in lot for part in parts]):
                return False
        return True

    def below_fault(self, bars, kept, fault):
        """The pairs (bars, kept) of the nodes below a fault, None if any value is no fault without some steps."""
        if not isinstance(fault, Fault):
            return None
        facts = self.facts_of(fault)
        if facts is None:
            return None
        stage, length, names = facts
        if any([bar in names for bar in bars]) or not self.are_bounds(bars, fault.numbers):
            return None
        if fault.numbers.get(stage) != length:
            return None
        found = []
        for name in names:
            if name in self.paper.prices and name not in kept:
                found.append((tuple(sorted(bars + (name,))), kept))
                kept = tuple(sorted(kept + (name,)))
        return found

    def are_bounds(self, bars, numbers):
        """Whether some numbers are at most the lengths of all endings without some steps, and others have none."""
        if not self.is_closed(bars, {stage: True for stage in self.book.stages() if stage not in numbers}):
            return False
        if any([self.book.is_end(stage) and numbers[stage] > 0 for stage in numbers]):
            return False
        for name, stage, parts, shown in self.listed:
            if stage in numbers and name not in bars and all_in(parts, numbers):
                if numbers[stage] > shown + sum([numbers[part] for part in parts]):
                    return False
        return True

    def facts_of(self, fault):
        """As `facts_of_runs`; many nodes of a paper may have the same runs."""
        key = (fault.place, fault.first, fault.second)
        if key not in self.known:
            self.known[key] = self.facts_of_runs(fault)
        return self.known[key]

    def facts_of_runs(self, fault):
        """The triple (stage, number of deeds done there by the first run, names of all steps) of two runs.

        None if they are no runs to the end, not alike up to their place, or if what the first one does from there
        until the course has been left lies within what the second one does.
        """
        place = fault.place
        if fault.first[:place] != fault.second[:place] or place >= min(len(fault.first), len(fault.second)):
            return None
        rows = []
        names = {}
        for run in (fault.first, fault.second):
            stages = stages_before(self.book, self.useful, run)
            heights = heights_of(run[:len(stages)])
            if len(stages) < len(run) or heights[-1] > 0:
                return None
            for stage, move in zip(stages, run):
                if len(move) == 2:
                    names[(stage[0], move[1])] = True
            left = [at for at in range(place, len(run)) if heights[at + 1] < heights[place]][0]
            deeds = [self.book.steps(stages[at][0])[run[at][1]][2] for at in range(place, left) if run[at][0] == "do"]
            rows.append(row_by(self.paper.view, deeds))
        if within(rows[0], rows[1]):
            return None
        return (stages[place], len(rows[0]), sorted(names))


def heights_of(run):
    """How many stages the moments of a run have, the start first."""
    grown = {"leave": -1, "do": 0, "call": 1}
    heights = [1]
    for move in run:
        heights.append(heights[-1] + grown[move[0]])
    return heights
