"""Debts by how many calls are open, and how fast they can grow with them."""

from math import gcd

from stillowed.debts import base_of, debt, is_lap, met_courses, opened_of, sites_of, top_debts
from stillowed.errors import InvalidNumber
from stillowed.kinds import ascending, copied, is_number, is_number_to
from stillowed.steps import all_in

GREATEST = 10 ** 18
# A debt of 10 ** 18 that grows by at least 1 with each 8 open calls is reached with fewer than 2 ** 63 of them.
MOST_BITS = 63


class DepthGraph:
    """The met courses with the greatest debts that the sites from one to another leave behind, all with a sign.

    With the sign -1 greatest numbers are least debts. None stands where no site leads.
    """

    def __init__(self, table, sign):
        self.names = met_courses(table)
        self.main = self.names.index(table.book.main())
        many = len(self.names)
        self.steps = [[None] * many for _ in self.names]
        self.ends = [None] * many
        for stage in table.rows:
            at = self.names.index(stage[0])
            self.ends[at] = greater(self.ends[at], sign * debt(table, (stage,)))
        for stage, _, course, rest in sites_of(table):
            line = self.steps[self.names.index(stage[0])]
            at = self.names.index(course)
            line[at] = greater(line[at], sign * debt(table, (rest,)))

    def first_line(self):
        """What is left behind in each course at the start: only the main one is open."""
        return [0 if at == self.main else None for at in range(len(self.names))]

    def value(self, line):
        """The greatest number of all moments, with what is left behind in each course."""
        found = None
        for at, left in enumerate(line):
            if left is not None:
                found = greater(found, left + self.ends[at])
        return found


def greater(one, other):
    """The greater one of two numbers that may be None."""
    if one is None or other is None:
        return other if one is None else one
    return max(one, other)


def line_times(line, matrix):
    """What is left behind after the ways that the matrix tells."""
    found = []
    for at in range(len(line)):
        sums = [left + matrix[k][at] for k, left in enumerate(line) if left is not None and matrix[k][at] is not None]
        found.append(max(sums, default=None))
    return found


def squared(matrix):
    """The matrix of the ways twice as long."""
    return [line_times(line, matrix) for line in matrix]


def debts_at(table, depth):
    """The pair of the least and the greatest debt of the moments with so many open calls, None if there are none."""
    if not is_number_to(depth, GREATEST):
        raise InvalidNumber("depth")
    greatest = greatest_at(DepthGraph(table, 1), depth)
    if greatest is None:
        return None
    return (-greatest_at(DepthGraph(table, -1), depth), greatest)


def greatest_at(graph, depth):
    """The greatest number at a depth, None if there is no moment there."""
    line = graph.first_line()
    matrix = graph.steps
    while depth:
        if depth & 1:
            line = line_times(line, matrix)
        matrix = squared(matrix)
        depth >>= 1
    return graph.value(line)


def deepest(table):
    """The greatest number of open calls of all moments, None if there is none."""
    opened = opened_of(table)
    courses = {table.book.main(): True}
    for depth in range(len(opened)):
        courses = {inner: True for course in courses for inner, _ in opened[course]}
        if not courses:
            return depth
    # A way of as many sites as there are courses comes back to one of them.
    return None


def least_depth(table, wanted):
    """The least number of open calls of a moment with at least so great a debt, None if no moment has it."""
    if not is_number_to(wanted, GREATEST):
        raise InvalidNumber("wanted")
    graph = DepthGraph(table, 1)
    line = graph.first_line()
    if graph.value(line) >= wanted:
        return 0
    # Ways that may also stay where they are have the greatest debt of all depths up to theirs.
    matrix = [[greater(number, 0 if at == k else None) for k, number in enumerate(row)]
              for at, row in enumerate(graph.steps)]
    powers = [matrix]
    while len(powers) < MOST_BITS:
        powers.append(squared(powers[-1]))
    depth = 0
    for bit in reversed(range(MOST_BITS)):
        further = line_times(line, powers[bit])
        if graph.value(further) < wanted:
            line = further
            depth += 1 << bit
    return depth + 1 if depth + 1 < 1 << MOST_BITS else None


class Slope:
    """How fast debts can grow with the open calls: by `gain` deeds with `span` of them, in the long run."""

    def __init__(self, table, gain, span, heights, lap, base):
        self.table = table
        self.gain = gain
        self.span = span
        self.heights = copied(heights)
        self.lap = lap
        self.base = base


def slope(table):
    """The Slope of the debts, None if no more than some number of calls can be open."""
    if deepest(table) is not None:
        return None
    opened = opened_of(table)
    lap = steepest_lap(table, opened)
    total = debt(table, lap)
    common = gcd(total, len(lap))
    gain = total // common
    span = len(lap) // common
    heights = slope_heights(table, opened, gain, span)
    return Slope(table, gain, span, heights, lap, base_of(table, opened, lap[-1][0]))


def steepest_lap(table, opened):
    """The rests, innermost first, of a way of sites from a course back to it that owes the most for its length."""
    best = ()
    for name in opened:
        # Ways of so many sites with the greatest debts, by the courses to which they lead.
        ways_to = {name: ()}
        for _ in opened:
            ways_to = ways_behind(table, opened, ways_to)
            lap = ways_to.get(name, ())
            if lap and (not best or debt(table, lap) * len(best) > debt(table, best) * len(lap)):
                best = lap
    return best


def ways_behind(table, opened, ways_to):
    """The ways with one site more that have the greatest debts."""
    found = {}
    for course in ways_to:
        for inner, rest in opened[course]:
            further = (rest,) + ways_to[course]
            if inner not in found or debt(table, further) > debt(table, found[inner]):
                found[inner] = further
    return found


def slope_heights(table, opened, gain, span):
    """The least heights of a slope: no ring raises them for ever."""
    tops = top_debts(table)
    heights = {name: span * tops[name] for name in tops}
    for _ in opened:
        for name in opened:
            for inner, rest in opened[name]:
                heights[name] = max(heights[name], span * debt(table, (rest,)) - gain + heights[inner])
    return ascending(heights)


def check_slope(table, gain, span, heights, lap, base):
    """Whether any values behind the table are those of a Slope."""
    if not is_number(gain) or not is_number(span) or gcd(gain, span) != 1 or not is_lap(table, lap, base):
        return False
    if debt(table, lap) * span != gain * len(lap):
        return False
    tops = top_debts(table)
    if not isinstance(heights, dict) or len(heights) != len(tops) or not all_in(tops, heights):
        return False
    if not all([is_number(heights[name]) and heights[name] >= span * tops[name] for name in tops]):
        return False
    for stage, _, course, rest in sites_of(table):
        if heights[stage[0]] < span * debt(table, (rest,)) - gain + heights[course]:
            return False
    return True
