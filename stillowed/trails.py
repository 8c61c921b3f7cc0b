"""Trails: short certificates that stages are met."""

from stillowed.errors import InvalidMove, Refused
from stillowed.kinds import is_number
from stillowed.met import arrivals_for
from stillowed.steps import all_in, parts_of
from stillowed.useful import ranks, ranks_from_start
from stillowed.walks import rank_ways, walk_moves

MOST_MOVES = 20000


def trail_to(book, stage):
    """Some trail to a moment in which the stage is innermost."""
    return trail_along(arrivals_for(book, ranks(book), stage), stage)


def trail_along(arrivals, stage):
    """The trail to a met stage along the shortest arrivals."""
    steps = []
    arrival = arrivals[stage][1]
    while arrival:
        before, k, entered = arrival
        steps.append((k, entered))
        arrival = arrivals[before][1]
    frames = [[]]
    for k, entered in reversed(steps):
        frames[-1].append(k)
        if entered:
            frames.append([])
    return tuple([tuple(frame) for frame in frames])


def trail_moment(book, trail):
    """The moment to which any value leads that is a trail."""
    place, moment = followed(book, ranks_from_start(book), trail)
    if place is not None:
        raise InvalidMove(place)
    return moment


def followed(book, useful, trail):
    """The pair of the first wrong frame of any value as a trail, None if there is none, and the moment before it."""
    if not isinstance(trail, tuple) or not trail:
        return (-1, None)
    course = book.main()
    rests = []
    for at, frame in enumerate(trail):
        onto = frame_end(book, useful, course, frame)
        last = at == len(trail) - 1
        if onto is None or not (last or ends_in_call(book, course, frame)):
            return (at, None)
        rests.append(onto)
        if not last:
            course = book.steps(course)[frame[-1]][2]
    return (None, tuple(reversed(rests)))


def frame_end(book, useful, course, frame):
    """The stage to which the steps of any value that is a frame lead, None if it is no frame of this course."""
    if not isinstance(frame, tuple):
        return None
    steps = book.steps(course)
    stage = (course, 0)
    for k in frame:
        if not is_number(k) or k >= len(steps) or steps[k][0] != stage[1]:
            return None
        parts = parts_of(course, steps[k])
        if not all_in(parts, useful):
            return None
        stage = parts[-1]
    return stage


def ends_in_call(book, course, frame):
    """Whether the last step of a frame is a call."""
    return len(frame) > 0 and book.steps(course)[frame[-1]][1] == "call"


def trail_run(book, trail):
    """The run along any value that is a trail, passed calls being finished in the first shortest way."""
    trail_moment(book, trail)
    useful = ranks(book)
    frames = frames_with_courses(book, trail)
    passed = sum([passed_moves(book, useful, course, frame) for course, frame, _ in frames])
    if passed + sum([len(frame) for frame in trail]) > MOST_MOVES:
        raise Refused("long")
    chosen = rank_ways(book, useful)
    run = []
    for course, frame, entered in frames:
        run.extend(walk_moves(book, chosen, course, frame))
        run.extend(entered)
    return tuple(run)


def frames_with_courses(book, trail):
    """For each frame of a trail: (its course, its steps without an entered call, the move of this call if any)."""
    found = []
    course = book.main()
    for frame in trail[:-1]:
        found.append((course, frame[:-1], (("call", frame[-1]),)))
        course = book.steps(course)[frame[-1]][2]
    found.append((course, trail[-1], ()))
    return found


def passed_moves(book, useful, course, frame):
    """How many moves finish the calls of a course that some steps pass."""
    steps = [book.steps(course)[k] for k in frame]
    return sum([useful[(step[2], 0)] for step in steps if step[1] == "call"])


def check_trail(book, stage, trail):
    """Whether any value is a trail to a moment in which the stage is innermost."""
    useful = ranks(book)
    if (book.main(), 0) not in useful:
        return False
    place, moment = followed(book, useful, trail)
    return place is None and moment[0] == stage
