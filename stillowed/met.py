"""Met stages: those that some run can have innermost."""

from heapq import heappop, heappush

from stillowed.errors import NoEnding, Refused
from stillowed.kinds import ascending
from stillowed.steps import all_in, steps_out
from stillowed.useful import ranks

MOST_MOVES = 20000
# More than any number of moves that a search here can find: ranks are at most 2 ** 61.
FAR = 10 ** 40


def met(book):
    """A dict from each met stage to the fewest moves of a run that has it innermost."""
    found = met_arrivals(book, ranks(book))
    return ascending({stage: found[stage][0] for stage in found})


def met_arrivals(book, useful):
    """For each met stage (fewest moves, arrival); an arrival is (stage, step, is entered), None at the start."""
    first = (book.main(), 0)
    found = {}
    queue = []
    if first in useful:
        heappush(queue, (0, first, ()))
    while queue:
        moves, stage, arrival = heappop(queue)
        if stage in found:
            continue
        found[stage] = (moves, arrival)
        for cost, part, k, entered in onward(book, useful, stage):
            if part not in found:
                heappush(queue, (moves + cost, part, (stage, k, entered)))
    return found


def onward(book, useful, stage):
    """The tuples (moves, stage, step, is entered) by which a run goes on within the course or into a call."""
    found = []
    for k, parts in steps_out(book, stage):
        if all_in(parts, useful):
            if len(parts) == 1:
                found.append((1, parts[0], k, False))
            else:
                found.append((1, parts[0], k, True))
                found.append((1 + useful[parts[0]], parts[1], k, False))
    return found


def run_to(book, stage):
    """The first of the shortest runs that have a stage innermost."""
    useful = ranks(book)
    many = arrivals_for(book, useful, stage)[stage][0]
    if many > MOST_MOVES:
        raise Refused("long")
    return FirstRun(book, useful, distances(book, useful, stage)).moves_from_start(many)


def arrivals_for(book, useful, stage):
    """What `met_arrivals` finds; raises NoEnding or Refused("unmet") if the stage is not among it."""
    if stage not in useful:
        raise NoEnding(stage)
    found = met_arrivals(book, useful)
    if stage not in found:
        raise Refused("unmet")
    return found


def distances(book, useful, goal):
    """For each useful stage from which a run can have `goal` innermost before it leaves: the fewest moves."""
    back = {stage: [] for stage in useful}
    for stage in useful:
        for cost, part, _, _ in onward(book, useful, stage):
            back[part].append((cost, stage))
    found = {}
    queue = [(0, goal)]
    while queue:
        moves, stage = heappop(queue)
        if stage in found:
            continue
        found[stage] = moves
        for cost, before in back[stage]:
            if before not in found:
                heappush(queue, (moves + cost, before))
    return found


class FirstRun:
    """Builds the first shortest run to a goal, one move after another."""

    def __init__(self, book, useful, near):
        self.book = book
        self.useful = useful
        self.near = near
        # The open stages, the innermost last, each with the moves to the goal from it and those before it.
        self.opened = [((book.main(), 0), near[(book.main(), 0)])]

    def below(self):
        """The moves to the goal from the moment without its innermost stage."""
        return self.opened[-2][1] if len(self.opened) > 1 else FAR

    def nearest(self, stage, below):
        """The moves to the goal from a stage over a moment that has so many."""
        return min(self.near.get(stage, FAR), self.useful[stage] + below)

    def moves_from_start(self, many):
        """The first run with so many moves, which are the fewest."""
        run = []
        while many > 0:
            many -= 1
            run.append(self.make_first(many))
        return tuple(run)

    def make_first(self, many):
        """Make the first move behind which so many moves are left, and return it."""
        stage = self.opened[-1][0]
        if self.book.is_end(stage) and self.below() == many:
            self.opened.pop()
            return ("leave",)
        below = self.below()
        for k, parts in steps_out(self.book, stage):
            if not all_in(parts, self.useful):
                continue
            outer = self.nearest(parts[-1], below)
            inner = outer if len(parts) == 1 else self.nearest(parts[0], outer)
            if inner == many:
                self.opened[-1] = (parts[-1], outer)
                if len(parts) == 2:
                    self.opened.append((parts[0], inner))
                return (self.book.steps(stage[0])[k][1], k)
        return None


def check_met(book, table):
    """Whether a dict from stages to integers is `met(book)`."""
    return table == met(book)
