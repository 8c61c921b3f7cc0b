"""How least endings are made of one another, and papers that prove lists."""

from heapq import heappop, heappush

from stillowed.errors import InvalidNumber, NoEnding, Refused
from stillowed.kinds import is_number_to
from stillowed.lists import least_rows
from stillowed.rows import begun
from stillowed.steps import parts_of

MOST_MOVES = 2000


class WayFinder:
    """Finds the ways of the rows of a table."""

    def __init__(self, book, view, table):
        self.book = book
        self.view = view
        self.table = table
        # For each stage a dict from its rows to their numbers, and the lengths that they have.
        self.numbers = {stage: {row: at for at, row in enumerate(table[stage])} for stage in table}
        self.sizes = {stage: sorted({len(row): True for row in table[stage]}) for stage in table}

    def ways_of(self, stage, row):
        """The ways of a row of a stage: the end first, then steps by their numbers."""
        found = [("end",)] if row == () and self.book.is_end(stage) else []
        for k in self.book.steps_from(stage):
            found.extend(self.ways_by(stage, k, row))
        return found

    def ways_by(self, stage, k, row):
        """The ways of a row of a stage by one of its steps, ascending."""
        step = self.book.steps(stage[0])[k]
        rest = (stage[0], step[3])
        if rest not in self.table:
            return []
        if step[1] == "do":
            shown = self.view[step[2]]
            number = self.numbers[rest].get(row[len(shown):]) if row[:len(shown)] == shown else None
            return [] if number is None else [("do", k, number)]
        called = (step[2], 0)
        found = []
        for size in self.sizes.get(called, ()):
            if size <= len(row):
                first = self.numbers[called].get(row[:size])
                second = self.numbers[rest].get(row[size:])
                if first is not None and second is not None:
                    found.append(("call", k, first, second))
        return sorted(found)

    def parts_of_way(self, stage, way):
        """The pairs (stage, number) of the rows of which a way makes a row."""
        if way[0] == "end":
            return ()
        step = self.book.steps(stage[0])[way[1]]
        return tuple([(part, way[2 + at]) for at, part in enumerate(parts_of(stage[0], step))])

    def every_row(self):
        """The triples (stage, number, row) of all rows of the table."""
        return [(stage, at, row) for stage in self.table for at, row in enumerate(self.table[stage])]


def makers(book, view, table):
    """For each stage of a table a tuple with a pair (fewest moves, first way that gives them) for each row."""
    finder = WayFinder(book, view, table)
    ways = {(stage, at): finder.ways_of(stage, row) for stage, at, row in finder.every_row()}
    best = settled_rows(finder, ways, moves_behind)
    made = {}
    for stage in table:
        pairs = []
        for at in range(len(table[stage])):
            firsts = [way for way in ways[(stage, at)] if moves_of(finder, best, stage, way) == best[(stage, at)]]
            pairs.append((best[(stage, at)], firsts[0]))
        made[stage] = tuple(pairs)
    return made


def moves_of(finder, best, stage, way):
    """The moves that a way gives by those of its parts."""
    return moves_behind([best[part] for part in finder.parts_of_way(stage, way)])


def moves_behind(told):
    """The moves of a way by those of its parts, of which an end has none."""
    return 1 + sum(told)


def depth_behind(told):
    """The greatest number of open calls of a way by those of its parts; a call opens its first part."""
    return max([0] + told) if len(told) < 2 else max(1 + told[0], told[1])


def settled_rows(finder, ways, measure):
    """The least numbers that the ways of each pair (stage, number) give it by a measure of their parts' numbers."""
    users = {key: [] for key in ways}
    queue = []
    for key in ways:
        for way in ways[key]:
            parts = finder.parts_of_way(key[0], way)
            for part in parts:
                users[part].append((key, parts))
            if not parts:
                heappush(queue, (measure([]), key))
    best = {}
    while queue:
        number, key = heappop(queue)
        if key in best:
            continue
        best[key] = number
        for user, parts in users[key]:
            if user not in best and all([part in best for part in parts]):
                heappush(queue, (measure([best[part] for part in parts]), user))
    return best


def enough_depth(book, view, table):
    """The least depth of which a table of lists is the table."""
    finder = WayFinder(book, view, table)
    ways = {(stage, at): finder.ways_of(stage, row) for stage, at, row in finder.every_row()}
    best = settled_rows(finder, ways, depth_behind)
    return max([0] + [best[key] for key in best])


def list_run(book, made, stage, place):
    """The moves by which ways make the row with this number of the list of a stage."""
    if stage not in made:
        raise NoEnding(stage)
    if not is_number_to(place, len(made[stage]) - 1):
        raise InvalidNumber("place")
    if made[stage][place][0] > MOST_MOVES:
        raise Refused("long")
    run = []
    opened = [(stage, place)]
    while opened:
        here, at = opened.pop()
        way = made[here][at][1]
        if way == ("end",):
            run.append(("leave",))
        else:
            run.append((way[0], way[1]))
            parts = parts_of(here[0], book.steps(here[0])[way[1]])
            opened.extend([(part, way[2 + k]) for k, part in enumerate(parts)][::-1])
    return tuple(run)


def bearing(book, view, table):
    """The lot of the pairs (course, k) of the steps that occur in some way of some row."""
    finder = WayFinder(book, view, table)
    found = {}
    for stage, _, row in finder.every_row():
        for k in book.steps_from(stage):
            if (stage[0], k) not in found and finder.ways_by(stage, k, row):
                found[(stage[0], k)] = True
    return tuple(sorted(found))


def check_lists(book, view, table, made):
    """Whether a table of rows and the ways by which they are made prove that it has just the lists."""
    if sorted(table) != sorted(made) or not has_all_ends(book, table):
        return False
    for stage in table:
        rows = table[stage]
        if not rows or least_rows(rows) != rows or len(made[stage]) != len(rows):
            return False
        if book.is_end(stage) and rows != ((),):
            return False
    for name in book.names():
        for step in book.steps(name):
            if not covers_step(view, table, name, step):
                return False
    finder = WayFinder(book, view, table)
    return all([is_made(finder, made, stage, at, row) for stage, at, row in finder.every_row()])


def has_all_ends(book, table):
    """Whether all stages at which a course may end are keys of the table."""
    return all([stage in table for stage in book.stages() if book.is_end(stage)])


def covers_step(view, table, name, step):
    """Whether each row that a step makes of rows of its parts holds a row of the stage that it leaves."""
    firsts = (view[step[2]],) if step[1] == "do" else table.get((step[2], 0), ())
    return are_held(table.get((name, step[0]), ()), firsts, table.get((name, step[3]), ()))


def are_held(rows, firsts, seconds):
    """Whether each row of `firsts` followed by each row of `seconds` holds one of the rows."""
    every = (1 << len(seconds)) - 1
    if not firsts or not seconds:
        return True
    # For each row and number of its first deeds: the bits of the second rows that hold all behind these.
    behind = [bits_behind(row, seconds) for row in rows]
    for first in firsts:
        bits = 0
        for at, row in enumerate(rows):
            bits |= behind[at][begun(row, first)]
        if bits != every:
            return False
    return True


def bits_behind(row, seconds):
    """For each number of first deeds of a row: the bits of those rows that hold what is behind them."""
    found = [0] * (len(row) + 1)
    for number, second in enumerate(seconds):
        held = begun(row[::-1], second[::-1])
        for many in range(len(row) - held, len(row) + 1):
            found[many] |= 1 << number
    return found


def is_made(finder, made, stage, at, row):
    """Whether the way of a row is one of its ways, and its integer what this way gives."""
    number, way = made[stage][at]
    if number < 1 or way not in finder.ways_of(stage, row):
        return False
    return number == 1 + sum([made[part][place][0] for part, place in finder.parts_of_way(stage, way)])
