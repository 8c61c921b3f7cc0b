"""Piles: all moments that may be reached when only some deeds are seen."""

from heapq import heappop, heappush

from stillowed.errors import InvalidRow, Refused
from stillowed.kinds import ascending, copied
from stillowed.retrace import Retrace
from stillowed.steps import all_in, steps_out
from stillowed.useful import ranks, ranks_from_start

MOST_SHOWN = 12
MOST_MOVES = 20000


class Piles:
    """The facts about runs that look like a shown row, and their frames, with the fewest moves."""

    def __init__(self, book, seen, shown, walks, frames):
        self.book = book
        self.seen = seen
        self.shown = shown
        self.walks = copied(walks)
        self.frames = copied(frames)


def piles_of(book, seen, shown=()):
    """The Piles for any value that is a row of at most 12 seen deeds."""
    useful = ranks_from_start(book)
    check_shown(seen, shown)
    search = WalkSearch(book, useful, seen, shown)
    frames = entered_frames(search)
    walks = {fact: search.walks[fact] for fact in search.walks if fact[:2] in frames}
    return Piles(book, seen, shown, ascending(walks), ascending(frames))


def check_shown(seen, shown):
    """Raise InvalidRow if any value is no row of at most 12 seen deeds."""
    if not isinstance(shown, tuple):
        raise InvalidRow(-1)
    for at, deed in enumerate(shown):
        if at >= MOST_SHOWN or not isinstance(deed, str) or deed not in seen:
            raise InvalidRow(at)


class WalkSearch:
    """Finds all walks of all courses with the fewest moves, from each place of the shown row, shortest first."""

    def __init__(self, book, useful, seen, shown):
        self.book = book
        self.useful = useful
        self.seen = seen
        self.shown = shown
        self.walks = {}
        # For each frame, the pairs (place, moves) of its finishes, and the calls that wait for more of them.
        self.finishes = {}
        self.waiting = {}
        self.queue = []
        self.search()

    def search(self):
        """Find all walks."""
        for course in self.book.names():
            if (course, 0) in self.useful:
                for begun in range(len(self.shown) + 1):
                    self.finishes[(course, begun)] = {}
                    self.waiting[(course, begun)] = []
                    heappush(self.queue, (0, (course, begun, 0, begun)))
        while self.queue:
            moves_made, fact = heappop(self.queue)
            if len(fact) == 3:
                self.finish(moves_made, fact)
            elif fact not in self.walks:
                self.walks[fact] = moves_made
                self.go_on(moves_made, fact)

    def go_on(self, moves_made, fact):
        """Keep what can be done behind a walk."""
        course, begun, number, place = fact
        if self.book.is_end((course, number)):
            heappush(self.queue, (moves_made + 1, (course, begun, place)))
        for k, parts in steps_out(self.book, (course, number)):
            if not all_in(parts, self.useful):
                continue
            step = self.book.steps(course)[k]
            if step[1] == "do":
                onto = self.place_behind(step[2], place)
                if onto is not None:
                    heappush(self.queue, (moves_made + 1, (course, begun, step[3], onto)))
                continue
            called = (step[2], place)
            self.waiting[called].append((moves_made, (course, begun, step[3])))
            for onto in self.finishes[called]:
                total = moves_made + 1 + self.finishes[called][onto]
                heappush(self.queue, (total, (course, begun, step[3], onto)))

    def place_behind(self, deed, place):
        """The place of the shown row behind a deed, None if another deed must be seen."""
        if deed not in self.seen:
            return place
        if place < len(self.shown) and self.shown[place] == deed:
            return place + 1
        return None

    def finish(self, moves_made, fact):
        """Let the waiting calls go on behind the shortest finish of a frame at a place."""
        course, begun, place = fact
        if place in self.finishes[(course, begun)]:
            return
        self.finishes[(course, begun)][place] = moves_made
        for before, caller in self.waiting[(course, begun)]:
            heappush(self.queue, (before + 1 + moves_made, caller + (place,)))


def entered_frames(search):
    """A dict from the frames that runs enter to the fewest moves of such a run."""
    facts = facts_by_frame(search.walks)
    found = {}
    queue = [(0, (search.book.main(), 0))]
    while queue:
        moves_made, frame = heappop(queue)
        if frame in found:
            continue
        found[frame] = moves_made
        for number, place in facts[frame]:
            walked = moves_made + search.walks[frame + (number, place)] + 1
            for inner, _ in calls_from(search.book, search.useful, (frame[0], number)):
                if (inner, place) not in found:
                    heappush(queue, (walked, (inner, place)))
    return found


def facts_by_frame(walks):
    """A dict from each frame to the list of the pairs (number, place) of its facts."""
    found = {}
    for course, begun, number, place in walks:
        found.setdefault((course, begun), []).append((number, place))
    return found


def calls_from(book, useful, stage):
    """The pairs (called course, stage where the call goes on) of the calls from a stage to useful stages."""
    return [(parts[0][0], parts[1]) for _, parts in steps_out(book, stage) if len(parts) == 2 and all_in(parts, useful)]


def check_piles(piles):
    """Whether the facts and frames are those of `piles_of`."""
    right = piles_of(piles.book, piles.seen, piles.shown)
    return piles.walks == right.walks and piles.frames == right.frames


def links(piles):
    """The lot of (frame, stage, inner) of the calls from the stages of facts."""
    useful = ranks(piles.book)
    found = {}
    for course, begun, number, place in piles.walks:
        for inner, rest in calls_from(piles.book, useful, (course, number)):
            found[((course, begun), rest, (inner, place))] = True
    return tuple(sorted(found))


def tops(piles):
    """The lot of (frame, stage) of the facts at the end of the shown row."""
    last = len(piles.shown)
    return tuple(sorted([(fact[:2], (fact[0], fact[2])) for fact in piles.walks if fact[3] == last]))


def is_possible(piles, moment):
    """Whether any value is a moment that fits."""
    return are_stages(piles.book, moment) and Retrace(piles).path_to(moment) is not None


def are_stages(book, value):
    """Whether any value is a tuple of stages of the book."""
    return isinstance(value, tuple) and all([book.is_stage(stage) for stage in value])


def run_like(piles, moment):
    """Some shortest run that looks like the shown row and leads to any value that is a moment that fits."""
    if not are_stages(piles.book, moment):
        raise Refused("unfit")
    retrace = Retrace(piles)
    path = retrace.path_to(moment)
    if path is None:
        raise Refused("unfit")
    if path[0] > MOST_MOVES:
        raise Refused("long")
    return retrace.moves_along(path[1])


def may_be_over(piles):
    """Whether the end fits."""
    return is_possible(piles, ())


def later_deeds(piles):
    """The lot of the seen deeds that can be the next one that is seen."""
    useful = ranks(piles.book)
    found = {}
    for _, stage in tops(piles):
        for k, parts in steps_out(piles.book, stage):
            step = piles.book.steps(stage[0])[k]
            if step[1] == "do" and step[2] in piles.seen and all_in(parts, useful):
                found[step[2]] = True
    return tuple(sorted(found))
