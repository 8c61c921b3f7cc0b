"""How great debts can become, and how soon."""

from heapq import heappop, heappush

from stillowed.errors import InvalidNumber, Refused
from stillowed.kinds import ascending, copied, is_number, is_number_to
from stillowed.moments import is_moment
from stillowed.steps import all_in, steps_out
from stillowed.useful import ranks

MOST_STAGES = 20000
MOST_WANTED = 400


def sites(table):
    """The lot of pairs (course, k) of the calls that can be made from met stages."""
    return tuple(sorted([(site[0][0], site[1]) for site in sites_of(table)]))


def sites_of(table):
    """The sites as tuples (stage that it leaves, k, opened course, rest)."""
    found = []
    for stage in table.rows:
        for k, parts in steps_out(table.book, stage):
            if len(parts) == 2 and all_in(parts, table.rows):
                found.append((stage, k, parts[0][0], parts[1]))
    return sorted(found)


def debt(table, moment):
    """The number of deeds that are owed at a moment."""
    return sum([len(table.row(stage)) for stage in moment])


def met_courses(table):
    """The ascending names of the courses whose first stage is met."""
    return [name for name in sorted(table.book.names()) if (name, 0) in table.rows]


class Heights:
    """Least bounds of the debts of the met courses, and a moment with the greatest debt."""

    def __init__(self, table, heights, peak):
        self.table = table
        self.heights = copied(heights)
        self.peak = peak
        self.greatest = heights[table.book.main()]


class Ring:
    """Stages that can be opened again and again, the debt growing with each lap."""

    def __init__(self, table, lap, base):
        self.table = table
        self.lap = lap
        self.base = base
        self.gain = debt(table, lap)

    def turned(self, times):
        """The moment with so many laps."""
        if 1 + times * len(self.lap) + len(self.base) > MOST_STAGES:
            raise Refused("long")
        return self._foot() + self.lap * times + self.base

    def times_for(self, wanted):
        """The least number of laps with which the debt is at least so great."""
        missing = wanted - debt(self.table, self._foot() + self.base)
        if missing <= 0:
            return 0
        return (missing + self.gain - 1) // self.gain

    def _foot(self):
        """The moment of the innermost stage alone, the first one of the course that the lap comes back to."""
        return ((self.lap[-1][0], 0),)


def greatest_debt(table):
    """The Heights of the debts if they have a bound, otherwise a Ring."""
    opened = opened_of(table)
    heights = top_debts(table)
    # As in a search for longest ways: where as many rounds as there are courses do not settle it, there is a ring.
    for _ in opened:
        grown = [name for name in opened if raise_height(table, opened, heights, name)]
        if not grown:
            return Heights(table, ascending(heights), peak_of(table, opened, heights))
    return ring_of(table, opened)


def opened_of(table):
    """For each met course the pairs (opened course, rest) of its sites."""
    opened = {name: [] for name in met_courses(table)}
    for stage, _, course, rest in sites_of(table):
        opened[stage[0]].append((course, rest))
    return opened


def top_debts(table):
    """For each met course the greatest debt of its met stages."""
    found = {name: 0 for name in met_courses(table)}
    for stage in table.rows:
        found[stage[0]] = max(found[stage[0]], debt(table, (stage,)))
    return found


def raise_height(table, opened, heights, name):
    """Raise the height of a course to what its sites ask for, and return whether that changed it."""
    wanted = max([0] + [debt(table, (rest,)) + heights[course] for course, rest in opened[name]])
    if wanted <= heights[name]:
        return False
    heights[name] = wanted
    return True


def peak_of(table, opened, heights):
    """A moment with the greatest debt, of as few stages as such moments built of least heights have."""
    main = table.book.main()
    queue = [(main, ())]
    seen = {main: True}
    at = 0
    while at < len(queue):
        name, rests = queue[at]
        at += 1
        for stage in sorted(table.rows):
            if stage[0] == name and debt(table, (stage,)) == heights[name]:
                return (stage,) + rests
        for course, rest in opened[name]:
            if course not in seen and debt(table, (rest,)) + heights[course] == heights[name]:
                seen[course] = True
                queue.append((course, (rest,) + rests))
    return None


def ring_of(table, opened):
    """A Ring, if there is one: the longest ways of so many sites come back to a course with a gain."""
    for name in opened:
        lap = lap_of(table, opened, name)
        if lap is not None:
            return Ring(table, lap, base_of(table, opened, name))
    return None


def lap_of(table, opened, name):
    """The rests, innermost first, of a way of sites from a course back to it with some debt, None if there is none.

    A course is looked for with a debt of the way so far and without one; of the latter kind, none is a ring.
    """
    queue = [(name, ())]
    seen = {}
    at = 0
    while at < len(queue):
        course, rests = queue[at]
        at += 1
        for inner, rest in opened[course]:
            further = (rest,) + rests
            gains = debt(table, further) > 0
            if inner == name and gains:
                return further
            if (inner, gains) not in seen:
                seen[(inner, gains)] = True
                queue.append((inner, further))
    return None


def base_of(table, opened, name):
    """The rests, innermost first, of a way of sites from the main course to a course."""
    main = table.book.main()
    queue = [(main, ())]
    seen = {main: True}
    at = 0
    while queue[at][0] != name:
        course, rests = queue[at]
        at += 1
        for inner, rest in opened[course]:
            if inner not in seen:
                seen[inner] = True
                queue.append((inner, (rest,) + rests))
    return queue[at][1]


def check_heights(table, heights, peak):
    """Whether any two values are bounds of the debts and a moment that reaches that of the main course."""
    names = met_courses(table)
    if not isinstance(heights, dict) or len(heights) != len(names) or not all_in(names, heights):
        return False
    if not all([is_number(heights[name]) for name in names]):
        return False
    for stage in table.rows:
        if heights[stage[0]] < debt(table, (stage,)):
            return False
    for stage, _, course, rest in sites_of(table):
        if heights[stage[0]] < debt(table, (rest,)) + heights[course]:
            return False
    return is_open_moment(table, peak) and debt(table, peak) == heights[table.book.main()]


def is_open_moment(table, value):
    """Whether any value is a moment of the table's book other than the end."""
    return value != () and is_moment(table.book, ranks(table.book), value)


def check_ring(table, lap, base):
    """Whether any two values are the lap and the base of a Ring."""
    return is_lap(table, lap, base) and debt(table, lap) > 0


def is_lap(table, lap, base):
    """Whether any two values are stages, innermost first, that can be opened again and again, and those before them."""
    if not isinstance(lap, tuple) or not isinstance(base, tuple) or not lap or not table.book.is_stage(lap[-1]):
        return False
    foot = ((lap[-1][0], 0),)
    # One lap shows all calls: those into the lap, within it, and out of it, which are also those without a lap.
    return is_open_moment(table, foot + lap + base)


def soonest(table, wanted):
    """The fewest moves to a moment with at least so great a debt, and such a moment; None if there is none."""
    if not is_number_to(wanted, MOST_WANTED):
        raise InvalidNumber("wanted")
    useful = ranks(table.book)
    found = {}
    queue = [(0, ((table.book.main(), 0), 0), ())]
    while queue:
        moves_made, state, arrival = heappop(queue)
        if state in found:
            continue
        found[state] = arrival
        stage, below = state
        if below + debt(table, (stage,)) >= wanted:
            return (moves_made, (stage,) + rests_behind(found, state))
        for cost, other, rests in states_behind(table, useful, stage):
            further = (other, min(wanted, below + debt(table, rests)))
            if further not in found:
                heappush(queue, (moves_made + cost, further, (state, rests)))
    return None


def states_behind(table, useful, stage):
    """The tuples (moves, stage, rests put under it) by which a run goes on from a stage."""
    found = []
    for _, parts in steps_out(table.book, stage):
        if all_in(parts, useful):
            if len(parts) == 1:
                found.append((1, parts[0], ()))
            else:
                found.append((1, parts[0], parts[1:]))
                found.append((1 + useful[parts[0]], parts[1], ()))
    return found


def rests_behind(found, state):
    """The rests, innermost first, that were put down on the way to a state."""
    rests = []
    while found[state]:
        state, added = found[state]
        rests.extend(added)
    return tuple(rests)
