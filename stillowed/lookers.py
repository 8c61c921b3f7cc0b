"""What onlookers know of the owed row: all of it or not, and how it changes with what they see."""

from stillowed.errors import InvalidRow
from stillowed.kinds import ascending, copied, is_number_to
from stillowed.linkage import LinkGraph, visible_graph
from stillowed.moments import start
from stillowed.piles import is_possible
from stillowed.steps import all_in, steps_out

NO_CHANGE = ((), ())


class Known:
    """The row that is owed at all moments that fit, and for each frame a place of it."""

    def __init__(self, owes, places):
        self.owes = owes
        self.places = copied(places)


class Unknown:
    """Two moments that fit and owe unlike rows."""

    def __init__(self, one, other):
        self.one = one
        self.other = other


class Tracked:
    """The row owed at the start, and for each seen deed how it changes what is owed at the front."""

    def __init__(self, basis, effects):
        self.basis = basis
        self.effects = copied(effects)


class Untracked:
    """A step that changes the owed row although it is not seen, or two steps of one deed that change it unlike."""

    def __init__(self, one, other):
        self.one = one
        self.other = other


def known(table, piles):
    """A Known if the same row is owed at all moments that fit, otherwise an Unknown."""
    return Knowing(table, visible_graph(piles)).answer()


class Knowing:
    """Goes along the links from the main course inwards, with the place of one owed row before each frame."""

    def __init__(self, table, graph):
        self.table = table
        self.graph = graph
        # The ways from frames to innermost stages: for each frame such stages, innermost first.
        self.inner = inner_ways(graph)
        self.model = () if graph.over else self.inner[graph.first]
        self.owes = table.owed(self.model)
        self.rests = {graph.first: ()}
        self.places = {graph.first: len(self.owes)}

    def answer(self):
        """The Known or Unknown."""
        queue = [self.graph.first]
        at = 0
        while at < len(queue):
            frame = queue[at]
            at += 1
            for stage in self.graph.tops.get(frame, ()):
                if self.table.rows[stage] != self.owes[:self.places[frame]]:
                    return Unknown(self.model, (stage,) + self.rests[frame])
            for stage, inner in self.graph.onward[frame]:
                if inner not in self.inner:
                    continue
                rests = (stage,) + self.rests[frame]
                place = self.place_before(stage, self.places[frame])
                if place is None:
                    return self.unlike(inner, (rests,))
                if inner not in self.places:
                    self.places[inner] = place
                    self.rests[inner] = rests
                    queue.append(inner)
                if self.places[inner] != place:
                    return self.unlike(inner, (rests, self.rests[inner]))
        return Known(self.owes, ascending(self.places))

    def place_before(self, stage, place):
        """The place of the row from which on it has the owed row of a stage up to a place, None if it has not."""
        row = self.table.rows[stage]
        before = place - len(row)
        return before if before >= 0 and self.owes[before:place] == row else None

    def unlike(self, frame, many_rests):
        """The Unknown of the first moment over one of some rests that owes another row; one of them does."""
        moments = [self.inner[frame] + rests for rests in many_rests]
        return Unknown(self.model, [moment for moment in moments if self.table.owed(moment) != self.owes][0])


def inner_ways(graph):
    """For each frame from which links lead to a top: stages, innermost first, on a shortest way to one."""
    before = {}
    for frame in graph.onward:
        for stage, inner in graph.onward[frame]:
            before.setdefault(inner, []).append((frame, stage))
    found = {frame: (graph.tops[frame][0],) for frame in sorted(graph.tops)}
    queue = list(found)
    at = 0
    while at < len(queue):
        inner = queue[at]
        at += 1
        for frame, stage in before.get(inner, ()):
            if frame not in found:
                found[frame] = found[inner] + (stage,)
                queue.append(frame)
    return found


def check_knowing(table, piles, value):
    """Whether a Known or an Unknown is what it says."""
    if isinstance(value, Unknown):
        if not is_possible(piles, value.one) or not is_possible(piles, value.other):
            return False
        return table.owed(value.one) != table.owed(value.other)
    graph = LinkGraph(piles)
    if not graph.is_visible() or (graph.over and value.owes != ()):
        return False
    frames = inner_ways(graph)
    if not all([is_number_to(value.places.get(frame), len(value.owes)) for frame in frames]):
        return False
    if value.places[graph.first] != len(value.owes):
        return False
    return all([is_known_behind(table, graph, frames, value, frame) for frame in frames])


def is_known_behind(table, graph, frames, value, frame):
    """Whether the places of the links and tops of a frame are right."""
    place = value.places[frame]
    for stage in graph.tops.get(frame, ()):
        if value.owes[:place] != table.rows[stage]:
            return False
    for stage, inner in graph.onward[frame]:
        if inner in frames:
            before = value.places[inner]
            if before > place or value.owes[before:place] != table.rows[stage]:
                return False
    return True


def tracking(table, seen):
    """A Tracked if what is seen tells how the owed row changes, otherwise an Untracked."""
    effects = {}
    firsts = {}
    for stage in sorted(table.rows):
        for k, parts in steps_out(table.book, stage):
            if not all_in(parts, table.rows):
                continue
            step = table.book.steps(stage[0])[k]
            change = effect_of(table.rows[stage], table.owed(parts))
            if step[1] == "call" or step[2] not in seen:
                if change != NO_CHANGE:
                    return Untracked((stage[0], k), None)
            elif effects.setdefault(step[2], change) != change:
                return Untracked(firsts[step[2]], (stage[0], k))
            else:
                firsts.setdefault(step[2], (stage[0], k))
    return Tracked(table.owed(start(table.book)), ascending(effects))


def effect_of(before, after):
    """Two rows without their longest common tail."""
    many = 0
    while many < min(len(before), len(after)) and before[-1 - many] == after[-1 - many]:
        many += 1
    return (before[:len(before) - many], after[:len(after) - many])


def row_by_changes(tracked, shown):
    """The row that is owed behind all that is shown."""
    row = tracked.basis
    for at, deed in enumerate(shown):
        if deed not in tracked.effects:
            raise InvalidRow(at)
        first, second = tracked.effects[deed]
        if row[:len(first)] != first:
            raise InvalidRow(at)
        row = second + row[len(first):]
    return row
