"""Moments of a book and the runs between them."""

from stillowed.errors import InvalidMoment, InvalidMove, Refused
from stillowed.moving import fault_of, innermost, let_moves, moment_behind, stages_before
from stillowed.steps import steps_out
from stillowed.useful import ranks_from_start
from stillowed.walks import finish_moves, rank_ways, walk_moves, walk_steps, walks_of

MOST_MOVES = 20000


def start(book):
    """The moment at which runs begin."""
    ranks_from_start(book)
    return start_of(book)


def start_of(book):
    """The moment of the first stage of the main course alone."""
    return ((book.main(), 0),)


def check_moment(book, moment):
    """Raise InvalidMoment if any value is no moment that some run reaches, with useful stages."""
    at = wrong_place(book, ranks_from_start(book), moment)
    if at is not None:
        raise InvalidMoment(at)


def wrong_place(book, useful, moment):
    """The first wrong place of any value as a moment, -1 if it is no tuple, None if nothing is wrong."""
    if not isinstance(moment, tuple):
        return -1
    reached = reached_stages(book, useful)
    sites = call_places(book, reached)
    for at, stage in enumerate(moment):
        if not book.is_stage(stage) or stage not in useful:
            return at
        if at == 0 and stage not in reached:
            return at
        if at > 0 and (moment[at - 1][0], stage) not in sites:
            return at
        if at == len(moment) - 1 and stage[0] != book.main():
            return at
    return None


def is_moment(book, useful, moment):
    """Whether any value is a moment that some run reaches, with useful stages."""
    return wrong_place(book, useful, moment) is None


def reached_stages(book, useful):
    """A dict whose keys are the stages with reached numbers."""
    found = {}
    waiting = [(course, 0) for course in book.names()]
    while waiting:
        stage = waiting.pop()
        if stage not in found:
            found[stage] = True
            for _, parts in steps_out(book, stage):
                if len(parts) == 1 or parts[0] in useful:
                    waiting.append(parts[-1])
    return found


def call_places(book, reached):
    """A dict whose keys are the pairs (called course, stage where the call goes on) for reached calls."""
    found = {}
    for stage in reached:
        for _, parts in steps_out(book, stage):
            if len(parts) == 2:
                found[(parts[0][0], parts[1])] = True
    return found


def way_to(book, moment):
    """Some run with as few moves as possible from the start to any value that is a moment."""
    useful = ranks_from_start(book)
    at = wrong_place(book, useful, moment)
    if at is not None:
        raise InvalidMoment(at)
    legs = legs_to(book, useful, moment)
    if sum([cost for cost, _, _, _ in legs]) > MOST_MOVES:
        raise Refused("long")
    chosen = rank_ways(book, useful)
    run = []
    for _, course, numbers, last in legs:
        run.extend(walk_moves(book, chosen, course, numbers))
        if last is not None:
            run.append(last)
    if not moment:
        run.extend(finish_moves(book, chosen, start_of(book)[0]))
    return tuple(run)


def legs_to(book, useful, moment):
    """The legs of a shortest run to a moment: (moves, course, steps of a walk, last move or None)."""
    first = start_of(book)[0]
    if not moment:
        return [(useful[first], first[0], [], None)]
    walks = {course: walks_of(book, useful, course) for course in book.names() if (course, 0) in useful}
    legs = []
    for at in reversed(range(1, len(moment))):
        legs.append(leg_into(book, walks, moment[at], moment[at - 1][0]))
    course, number = moment[0]
    legs.append((walks[course][number][0], course, walk_steps(book, walks[course], course, number), None))
    return legs


def leg_into(book, walks, rest, called):
    """The shortest leg from the first stage of a course into a call that goes on at the stage `rest`."""
    course = rest[0]
    found = []
    for k, step in enumerate(book.steps(course)):
        if step[1:] == ("call", called, rest[1]) and step[0] in walks[course]:
            found.append((walks[course][step[0]][0] + 1, k))
    cost, k = min(found)
    return (cost, course, walk_steps(book, walks[course], course, book.steps(course)[k][0]), ("call", k))


def all_moments(book, most):
    """All moments that some run reaches, as a breadth-first search finds them."""
    useful = ranks_from_start(book)
    queue = [start_of(book)]
    found = {queue[0]: True}
    at = 0
    while at < len(queue) <= most:
        for move in let_moves(book, useful, queue[at]):
            moment = moment_behind(book, queue[at], move)
            if moment not in found:
                found[moment] = True
                queue.append(moment)
        at += 1
    if len(queue) > most:
        raise Refused("wide")
    return tuple(queue)


def moves(book, moment):
    """The moves that are let at a moment: leaving first, then steps by their numbers."""
    return tuple(let_moves(book, ranks_from_start(book), moment))


def moved(book, moment, move):
    """The moment behind any value that is a move that is let at a moment."""
    word = fault_of(book, ranks_from_start(book), innermost(moment), move)
    if word is not None:
        raise InvalidMove(word)
    return moment_behind(book, moment, move)


def run_moments(book, run):
    """All moments of any value that is a run, the start first."""
    useful = ranks_from_start(book)
    check_tuple(run)
    found = [start_of(book)]
    for at, move in enumerate(run):
        if fault_of(book, useful, innermost(found[-1]), move) is not None:
            raise InvalidMove(at)
        found.append(moment_behind(book, found[-1], move))
    return tuple(found)


def check_tuple(run):
    """Raise InvalidMove(-1) if any value is no tuple."""
    if not isinstance(run, tuple):
        raise InvalidMove(-1)


def deeds_of(book, run):
    """The row of the deeds of any value that is a run."""
    stages = stages_along(book, ranks_from_start(book), run)
    return tuple([book.steps(stage[0])[move[1]][2] for stage, move in zip(stages, run) if move[0] == "do"])


def stages_along(book, useful, run):
    """The innermost stage before each move of any value that is a run."""
    check_tuple(run)
    stages = stages_before(book, useful, run)
    if len(stages) < len(run):
        raise InvalidMove(len(stages))
    return stages
