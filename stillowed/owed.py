"""The owed rows: tables of them, and two endings where there is none."""

from stillowed.costs import sound_order
from stillowed.errors import NoEnding, Refused
from stillowed.kinds import ascending, copied
from stillowed.lengths import chosen_rows, lengths, ways
from stillowed.met import met
from stillowed.rows import within
from stillowed.steps import all_in, parts_of, steps_out
from stillowed.trails import trail_to
from stillowed.useful import ranks_from_start
from stillowed.walks import finish_moves

MOST_MOVES = 20000


class OwedTable:
    """For each stage of a book the row that it owes by a view, with a way that makes it and a rank."""

    def __init__(self, book, view, rows, chosen, ranks):
        self.book = book
        self.view = copied(view)
        self.rows = copied(rows)
        self.ways = copied(chosen)
        self.ranks = copied(ranks)

    def row(self, stage):
        """The row of a key."""
        if stage not in self.rows:
            raise NoEnding(stage)
        return self.rows[stage]

    def owed(self, moment):
        """The rows of the stages of a moment, one after another."""
        found = []
        for stage in moment:
            found.extend(self.row(stage))
        return tuple(found)


class TwoEndings:
    """Two endings of one stage such that no ending of it lies within both."""

    def __init__(self, stage, trail, least, chosen, one, other):
        self.stage = stage
        self.trail = trail
        self.lengths = copied(least)
        self.ways = copied(chosen)
        self.one = one
        self.other = other


def joined_row(book, view, rows, stage, k):
    """The view's row for the deed of a step, or the row of the called course, followed by that of the next stage."""
    step = book.steps(stage[0])[k]
    row = view[step[2]] if step[1] == "do" else ()
    for part in parts_of(stage[0], step):
        row = row + rows[part]
    return row


def looks(book, view, rows):
    """The first pair (stage, number) of a look that does not hold, None if all hold."""
    for stage in sorted(rows):
        if book.is_end(stage) and rows[stage] != ():
            return (stage, -1)
        for k, parts in steps_out(book, stage):
            if all_in(parts, rows) and not within(rows[stage], joined_row(book, view, rows, stage, k)):
                return (stage, k)
    return None


def court(book, view):
    """A sound OwedTable if the book is clear by the view, otherwise a sound TwoEndings."""
    ranks_from_start(book)
    rows = chosen_rows(book, view)
    chosen = ways(book, view)
    stages = met(book)
    met_rows = {stage: rows[stage] for stage in stages}
    failed = looks(book, view, met_rows)
    if failed is None:
        met_ways = {stage: chosen[stage] for stage in stages}
        return OwedTable(book, view, met_rows, met_ways, ranks_along(book, met_ways))
    stage, k = failed
    other = joined_row(book, view, rows, stage, k)
    return TwoEndings(stage, trail_to(book, stage), lengths(book, view), chosen, rows[stage], other)


def ranks_along(book, chosen):
    """The rank of each key: 0 for an end, otherwise 1 plus the greatest rank of the parts of its way."""
    found = {}
    left = list(chosen)
    while left:
        for stage in left:
            rank = rank_along(book, chosen[stage], stage, found)
            if rank is not None:
                found[stage] = rank
        left = [stage for stage in left if stage not in found]
    return ascending(found)


def rank_along(book, way, stage, found):
    """The rank of a stage by those of the parts of its way, None if they are not all known."""
    if way == ("end",):
        return 0
    parts = parts_of(stage[0], book.steps(stage[0])[way[1]])
    if not all_in(parts, found):
        return None
    return 1 + max([found[part] for part in parts])


def tight(book, table):
    """The ascending pairs (course, k) of the steps between keys whose joined row is the row that they leave."""
    return tuple(sorted([(stage[0], k) for stage, k, _ in tight_steps(book, table)]))


def tight_steps(book, table):
    """The tight steps of a table as triples (stage that it leaves, k, parts)."""
    found = []
    for stage in table.rows:
        for k, parts in steps_out(book, stage):
            if all_in(parts, table.rows) and joined_row(book, table.view, table.rows, stage, k) == table.rows[stage]:
                found.append((stage, k, parts))
    return found


def tight_run(book, table, moment):
    """The moves along the ways of a sound table from a moment to the end."""
    for stage in moment:
        if stage not in table.rows:
            raise NoEnding(stage)
    many = moves_along(book, table.ways)
    if sum([many[stage] for stage in moment]) > MOST_MOVES:
        raise Refused("long")
    run = []
    for stage in moment:
        run.extend(finish_moves(book, table.ways, stage))
    return tuple(run)


def moves_along(book, chosen):
    """For each key of a sound dict of ways, how many moves leave its course along them."""
    found = {}
    for stage in sound_order(book, chosen):
        way = chosen[stage]
        parts = () if way == ("end",) else parts_of(stage[0], book.steps(stage[0])[way[1]])
        found[stage] = 1 + sum([found[part] for part in parts])
    return found
