"""A desk that rests: what grows meanwhile, which free moves lead where, and who can load it."""

from heapq import heappop, heappush

from stillowed.changes import numbers_left, without_steps
from stillowed.dealings import check_dealing, deeds_at, desks_of
from stillowed.debts import base_of, opened_of
from stillowed.errors import InvalidNumber, Refused
from stillowed.kinds import is_number_to
from stillowed.ledger import shown_row
from stillowed.loads import check_movers, free_steps, hidden, load_at
from stillowed.moments import run_moments
from stillowed.rows import all_lots, first_fit, within
from stillowed.steps import all_in, steps_out
from stillowed.useful import ranks
from stillowed.walks import finish_moves, rank_ways, walk_moves, walk_steps

MOST_MOVES = 20000
GREATEST = 10 ** 18


def stretches(table, run):
    """The triples (first, last, places) into which the shown deeds of any value that is a run divide its moments."""
    moments = run_moments(table.book, run)
    shown = [at for at, move in enumerate(run) if shown_row(table.book, table.view, moments[at], move)]
    firsts = [0] + [at + 1 for at in shown]
    lasts = shown + [len(run)]
    return tuple([(first, last, first_fit(table.owed(moments[first]), table.owed(moments[last])))
                  for first, last in zip(firsts, lasts)])


class FreeMoves:
    """Shortest free moves: how stages are left by them, and how they lead to other stages of a course."""

    def __init__(self, table, movers):
        self.book = table.book
        self.movers = movers
        self.useful = ranks(self.book)
        barred = {(name, k): True for name in self.book.names() for k, step in enumerate(self.book.steps(name))
                  if not self.is_free(step)}
        quiet = without_steps(self.book, barred)
        # For each stage that free moves leave: how many they are at least, and the ways of the first such moves.
        self.ranks = ranks(quiet)
        ways = rank_ways(quiet, self.ranks)
        left = {name: numbers_left(self.book, barred, name) for name in self.book.names()}
        self.ways = {stage: way if way == ("end",) else ("step", left[stage[0]][way[1]]) for stage, way in ways.items()}

    def is_free(self, step):
        """Whether a step calls or does a mover."""
        return step[1] == "call" or step[2] in self.movers

    def walks(self, stage):
        """For each number of the stage's course that free walks reach: (fewest moves from the stage, last step)."""
        found = {}
        queue = [(0, stage[1], -1)]
        while queue:
            cost, number, last = heappop(queue)
            if number in found:
                continue
            found[number] = (cost, last)
            for k, parts in steps_out(self.book, (stage[0], number)):
                if self.is_free(self.book.steps(stage[0])[k]) and all_in(parts, self.useful):
                    if len(parts) == 1:
                        heappush(queue, (cost + 1, parts[0][1], k))
                    elif parts[0] in self.ranks:
                        heappush(queue, (cost + 1 + self.ranks[parts[0]], parts[1][1], k))
        return found


class Goal:
    """The legs by which free moves from the first stages of its courses build up a moment other than the end.

    The leg number `many` leads to the calls of its first stages, so many of them, or to its innermost stage alone.
    """

    def __init__(self, free, moment):
        self.free = free
        self.moment = moment
        self.first_walks = [free.walks((stage[0], 0)) for stage in moment]
        # The fewest moves by which the first stages are built up, from the first stage of the last one's course.
        self.costs = []
        for many in range(1, len(moment) + 1):
            self.costs.append(self.cost_from(self.first_walks[many - 1], many))

    def ends_of_leg(self, many):
        """The pairs (number of a stage, entered call or None) at which the leg that builds so many stages can end."""
        if many == 1:
            return [(self.moment[0][1], None)]
        course, rest = self.moment[many - 1]
        called = self.moment[many - 2][0]
        steps = self.free.book.steps(course)
        return [(step[0], k) for k, step in enumerate(steps) if step[1:] == ("call", called, rest)]

    def best_end(self, walks, many):
        """The tuple (moves, number, entered call) of the best leg with some walks, None if there is none."""
        found = [(walks[number][0], number, k) for number, k in self.ends_of_leg(many) if number in walks]
        return min(found) if found else None

    def cost_from(self, walks, many):
        """The fewest moves that build so many stages, beginning with some walks; None if none do."""
        best = self.best_end(walks, many)
        if best is None or many == 1:
            return None if best is None else best[0]
        inner = self.costs[many - 2]
        return None if inner is None else best[0] + 1 + inner

    def moves_from(self, walks, many):
        """The moves of `cost_from`."""
        run = []
        book = self.free.book
        for at in reversed(range(many)):
            course = self.moment[at][0]
            _, number, k = self.best_end(walks, at + 1)
            run.extend(walk_moves(book, self.free.ways, course, walk_steps(book, walks, course, number)))
            if k is not None:
                run.append(("call", k))
                walks = self.first_walks[at - 1]
        return run


def free_run(table, movers, moment, goal):
    """Some run with the fewest moves, all of them free, from a moment to another one, None if there is none."""
    free = FreeMoves(table, check_movers(table, movers))
    built = Goal(free, goal)
    plans = plans_of(free, moment, built)
    if not plans:
        return None
    cost, left, many = min(plans)
    if cost > MOST_MOVES:
        raise Refused("long")
    run = []
    for stage in moment[:left]:
        run.extend(finish_moves(free.book, free.ways, stage))
    if many > 0:
        run.extend(built.moves_from(free.walks(moment[left]), many))
    return tuple(run)


def plans_of(free, moment, built):
    """The triples (moves, how many innermost stages are left, how many stages of the goal are built on the next one).

    What is behind these stages is never touched, and has to be the same in the moment and the goal.
    """
    goal = built.moment
    costs = leave_costs(free, moment)
    if goal == ():
        return [(costs[-1], len(moment), 0)] if len(costs) > len(moment) else []
    plans = []
    for left in range(min(len(costs), len(moment))):
        many = len(goal) - (len(moment) - left - 1)
        if many >= 1 and goal[many:] == moment[left + 1:] and goal[many - 1][0] == moment[left][0]:
            cost = built.cost_from(free.walks(moment[left]), many)
            if cost is not None:
                plans.append((costs[left] + cost, left, many))
    return plans


def leave_costs(free, moment):
    """The fewest free moves by which no stage of a moment, the innermost one and so on are left, as far as they can."""
    costs = [0]
    for stage in moment:
        if stage not in free.ranks:
            break
        costs.append(costs[-1] + free.ranks[stage])
    return costs


def loaders(table, dealing, moment, gain):
    """All least lots of desks without a shown deed that can load the desk by so many deeds, in order."""
    check_dealing(table.book, dealing)
    if not is_number_to(gain, GREATEST) or gain == 0:
        raise InvalidNumber("gain")
    quiet = {deed: True for deed in hidden(table)}
    desks = [desk for desk in desks_of(dealing) if all_in(deeds_at(dealing, desk), quiet)]
    found = []
    for lot in all_lots(desks):
        if not any([within(smaller, lot) for smaller in found]) and loads_by(table, dealing, lot, moment, gain):
            found.append(lot)
    return tuple(found)


def loads_by(table, dealing, lot, moment, gain):
    """Whether the deeds of some desks can load the desk by so many deeds."""
    movers = tuple(sorted([deed for desk in lot for deed in deeds_at(dealing, desk)]))
    load = load_at(table, movers, moment)
    return load is None or load >= gain


def late_note(table):
    """None if free moves only put deeds behind the owed row, otherwise some pair (moment, move) that does not."""
    movers = {deed: True for deed in hidden(table)}
    for stage in sorted(table.rows):
        for k, parts in free_steps(table, movers, stage):
            rests = late_rests(table, stage, table.owed(parts))
            if rests is not None:
                return ((stage,) + rests, (table.book.steps(stage[0])[k][1], k))
    return None


def late_rests(table, stage, after):
    """Rests behind a stage with which the row owed before is no beginning of that owed after, None if there are none.

    It is one with all rests exactly if deeds are only put behind the stage's row, and the rests owe a beginning of
    these deeds repeated for ever. A state is (course, place in these deeds).
    """
    opened = opened_of(table)
    row = table.rows[stage]
    if after[:len(row)] != row:
        return base_of(table, opened, stage[0])
    deeds = repeated(after[len(row):])
    callers = callers_of(opened)
    queue = [(stage[0], 0, ())] if deeds else []
    seen = {}
    at = 0
    while at < len(queue):
        course, place, rests = queue[at]
        at += 1
        for calling, rest in callers[course]:
            owed_row = table.rows[rest]
            further = (rest,) + rests
            if not is_repeating(deeds, place, owed_row):
                return tuple(reversed(further)) + base_of(table, opened, calling)
            onto = (place + len(owed_row)) % len(deeds)
            if (calling, onto) not in seen:
                seen[(calling, onto)] = True
                queue.append((calling, onto, further))
    return None


def callers_of(opened):
    """For each course the pairs (calling course, rest) of the sites that open it, out of those by calling courses."""
    found = {course: [] for course in opened}
    for calling in opened:
        for course, rest in opened[calling]:
            found[course].append((calling, rest))
    return found


def repeated(row):
    """The shortest row that makes a row by being repeated."""
    for size in range(1, len(row)):
        if row[:size] * (len(row) // size) == row:
            return row[:size]
    return row


def is_repeating(deeds, place, row):
    """Whether a row goes on, from a place on, as some deeds that are repeated for ever."""
    again = deeds[place:] + deeds * (len(row) // len(deeds) + 1)
    return row == again[:len(row)]
