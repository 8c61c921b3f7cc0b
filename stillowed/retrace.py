"""Runs that look like a shown row, retraced out of the facts of Piles."""

from stillowed.steps import all_in, steps_out
from stillowed.useful import ranks


class Retrace:
    """Finds the shortest runs that look like the shown row of some Piles and lead to a moment."""

    def __init__(self, piles):
        self.book = piles.book
        self.seen = piles.seen
        self.shown = piles.shown
        self.walks = piles.walks
        self.befores = {}
        self.finishes = {}
        self.entries = self.entries_of()

    def entries_of(self):
        """For each pair (called course, stage where the call goes on): the tuples (fact, k, inner frame)."""
        useful = ranks(self.book)
        found = {}
        for fact in self.walks:
            for k, parts in steps_out(self.book, (fact[0], fact[2])):
                if len(parts) == 2 and all_in(parts, useful):
                    inner = (parts[0][0], fact[3])
                    found.setdefault((inner[0], parts[1]), []).append((fact, k, inner))
        return found

    def path_to(self, moment):
        """The pair (moves, last entry) of a shortest run that fits, None if there is none.

        An entry is (fact walked to, move made there, entry before it), from the innermost course outwards.
        """
        if moment == ():
            return self.path_to_end()
        paths = {(self.book.main(), 0): (0, None)}
        for at in reversed(range(1, len(moment))):
            paths = self.inner_paths(paths, moment[at - 1][0], moment[at])
        found = []
        for frame in sorted(paths):
            fact = frame + (moment[0][1], len(self.shown))
            if frame[0] == moment[0][0] and fact in self.walks:
                found.append((paths[frame][0] + self.walks[fact], fact))
        if not found:
            return None
        cost, fact = min(found)
        return (cost, (fact, None, paths[fact[:2]][1]))

    def path_to_end(self):
        """The path to the end of the run: its one entry leaves the main course."""
        cost, fact = self.finish((self.book.main(), 0), len(self.shown))
        if fact is None:
            return None
        return (cost, (fact, ("leave",), None))

    def inner_paths(self, paths, called, rest):
        """The shortest paths to the frames of a called course, out of those to the frames of the calling one."""
        found = {}
        for fact, k, inner in self.entries.get((called, rest), ()):
            if fact[:2] in paths:
                cost, entry = paths[fact[:2]]
                total = cost + self.walks[fact] + 1
                if inner not in found or total < found[inner][0]:
                    found[inner] = (total, (fact, ("call", k), entry))
        return found

    def end_facts(self, frame, place):
        """The facts of a frame at its course's ends at a place."""
        facts = [frame + (number, place) for number in self.book.ends(frame[0])]
        return [fact for fact in facts if fact in self.walks]

    def moves_along(self, entry):
        """The moves of a run along the entries."""
        turned = []
        while entry is not None:
            fact, move, entry = entry
            if move is not None:
                turned.append(move)
            turned.extend(self.turned_moves(fact))
        return tuple(reversed(turned))

    def turned_moves(self, fact):
        """The moves of the walk of a fact, the last one first."""
        turned = []
        left = [fact]
        while left:
            one = left.pop()
            if len(one) < 4:
                turned.append(one)
            elif self.walks[one] > 0:
                left.extend(self.before(one))
        return turned

    def before(self, fact):
        """What a walk consists of, from its first part on: facts and moves, a move being shorter than a fact."""
        if fact not in self.befores:
            for k, step in enumerate(self.book.steps(fact[0])):
                if step[3] == fact[2]:
                    told = self.before_deed(fact, k, step) if step[1] == "do" else self.before_call(fact, k, step)
                    if told is not None:
                        self.befores[fact] = told
                        break
        return self.befores[fact]

    def before_deed(self, fact, k, step):
        """The parts of a walk whose last step does a deed, None if it is not the shortest."""
        course, begun, _, place = fact
        if step[2] in self.seen:
            place -= 1
            if place < begun or self.shown[place] != step[2]:
                return None
        earlier = (course, begun, step[0], place)
        if earlier in self.walks and self.walks[earlier] + 1 == self.walks[fact]:
            return [earlier, ("do", k)]
        return None

    def before_call(self, fact, k, step):
        """The parts of a walk whose last step is a call that is passed, None if it is not the shortest."""
        course, begun, _, place = fact
        for entered in range(begun, place + 1):
            earlier = (course, begun, step[0], entered)
            if earlier in self.walks:
                cost, last = self.finish((step[2], entered), place)
                if last is not None and self.walks[earlier] + 1 + cost == self.walks[fact]:
                    return [earlier, ("call", k), last, ("leave",)]
        return None

    def finish(self, frame, place):
        """The pair (moves, fact at the end) of the shortest finish of a frame at a place; the fact may be None."""
        if (frame, place) not in self.finishes:
            found = [(self.walks[fact] + 1, fact) for fact in self.end_facts(frame, place)]
            self.finishes[(frame, place)] = min(found, default=(0, None))
        return self.finishes[(frame, place)]
