"""Tails: how many of the last deeds tell what is owed."""

from stillowed.errors import InvalidNumber
from stillowed.kinds import is_number, is_number_to
from stillowed.moments import all_moments, deeds_of, run_moments
from stillowed.moving import fault_of, innermost, let_moves, moment_behind
from stillowed.useful import ranks_from_start

MOST_TAIL = 200


class RestGraph:
    """The moments at which runs are at rest, the deeds that lead from one to another, and their pairs.

    Moments are told by their numbers in the order of `all_moments`; the start has the number 0.
    """

    def __init__(self, table, most):
        self.table = table
        self.moments = all_moments(table.book, most)
        self.owed_rows = [table.owed(moment) for moment in self.moments]
        self.moves = self.moves_by_number()
        # For each moment a dict from a deed and a number to the moves that lead there by this deed alone.
        self.legs = [self.legs_from(number) for number in range(len(self.moments))]
        self.onward = [by_deeds(legs) for legs in self.legs]
        self.runs = self.runs_at_rest()

    def moves_by_number(self):
        """For each moment the triples (move, its deed or None, number of the next moment)."""
        book = self.table.book
        useful = ranks_from_start(book)
        numbers = {moment: number for number, moment in enumerate(self.moments)}
        found = []
        for moment in self.moments:
            moves_here = []
            for move in let_moves(book, useful, moment):
                deed = book.steps(moment[0][0])[move[1]][2] if move[0] == "do" else None
                moves_here.append((move, deed, numbers[moment_behind(book, moment, move)]))
            found.append(moves_here)
        return found

    def legs_from(self, number):
        """The shortest moves from a moment to one at rest by one deed, which is their last move."""
        legs = {}
        queue = [(number, ())]
        seen = {number: True}
        at = 0
        while at < len(queue):
            here, run = queue[at]
            at += 1
            for move, deed, onto in self.moves[here]:
                if deed is not None:
                    legs.setdefault((deed, onto), run + (move,))
                elif onto not in seen:
                    seen[onto] = True
                    queue.append((onto, run + (move,)))
        return legs

    def runs_at_rest(self):
        """A dict from each moment at which a run is at rest to such a run with the fewest deeds."""
        found = {0: ()}
        queue = [0]
        at = 0
        while at < len(queue):
            number = queue[at]
            at += 1
            for deed, onto in self.legs[number]:
                if onto not in found:
                    found[onto] = found[number] + self.legs[number][(deed, onto)]
                    queue.append(onto)
        return found

    def next_pairs(self, pair):
        """The tuples (pair behind one deed that both do, this deed)."""
        ones = self.onward[pair[0]]
        others = self.onward[pair[1]]
        return [((one, other), deed) for deed in ones if deed in others for one in ones[deed] for other in others[deed]]

    def is_unlike(self, pair):
        """Whether the two moments owe unlike rows."""
        return self.owed_rows[pair[0]] != self.owed_rows[pair[1]]

    def equal_runs(self):
        """Two runs with equal deeds to moments that owe unlike rows, None if there are none."""
        found = {(0, 0): None}
        queue = [(0, 0)]
        at = 0
        while at < len(queue):
            pair = queue[at]
            at += 1
            if self.is_unlike(pair):
                turned = []
                while found[pair] is not None:
                    earlier, deed = found[pair]
                    turned.append((earlier, pair, deed))
                    pair = earlier
                return self.runs_on(((), ()), turned)
            for onto, deed in self.next_pairs(pair):
                if onto not in found:
                    found[onto] = (pair, deed)
                    queue.append(onto)
        return None

    def runs_on(self, firsts, turned):
        """Two runs that go on from two first ones by tuples (pair, next pair, deed), of which the last comes first."""
        one, other = firsts
        for pair, onto, deed in reversed(turned):
            one = one + self.legs[pair[0]][(deed, onto[0])]
            other = other + self.legs[pair[1]][(deed, onto[1])]
        return (one, other)


def by_deeds(legs):
    """A dict from each deed to the list of the moments to which it leads."""
    found = {}
    for deed, onto in legs:
        found.setdefault(deed, []).append(onto)
    return found


class TailPairs:
    """For each pair of moments at rest, how many equal deeds at most can lead there from any such pair."""

    def __init__(self, graph):
        self.graph = graph
        self.befores = self.befores_of()
        # Pairs that are missing here are behind a ring: as many equal deeds as may be asked for lead there.
        self.depths = self.depths_of()

    def befores_of(self):
        """For each pair the list of the tuples (pair before, deed)."""
        pairs = [(one, other) for one in self.graph.runs for other in self.graph.runs]
        found = {pair: [] for pair in pairs}
        for pair in pairs:
            for onto, deed in self.graph.next_pairs(pair):
                found[onto].append((pair, deed))
        return found

    def depths_of(self):
        """The greatest numbers of equal deeds that lead to pairs, where they have a bound."""
        missing = {pair: len(self.befores[pair]) for pair in self.befores}
        depths = {pair: 0 for pair in missing if missing[pair] == 0}
        waiting = list(depths)
        while waiting:
            pair = waiting.pop()
            for onto, _ in self.graph.next_pairs(pair):
                missing[onto] -= 1
                if missing[onto] == 0:
                    depths[onto] = 1 + max([depths[earlier] for earlier, _ in self.befores[onto]])
                    waiting.append(onto)
        return depths

    def reaches(self, pair, k):
        """Whether so many equal deeds can lead to a pair."""
        return pair not in self.depths or self.depths[pair] >= k

    def unlike_pairs(self):
        """The pairs of moments that owe unlike rows."""
        return [pair for pair in self.befores if self.graph.is_unlike(pair)]

    def runs_to(self, pair, k):
        """Two runs whose last k deeds are equal, to a pair."""
        turned = []
        for left in reversed(range(k)):
            earlier, deed = [told for told in self.befores[pair] if self.reaches(told[0], left)][0]
            turned.append((earlier, pair, deed))
            pair = earlier
        return self.graph.runs_on((self.graph.runs[pair[0]], self.graph.runs[pair[1]]), turned)


def tail_need(table, most):
    """The least number of last deeds that is enough to tell the owed row, None if there is none."""
    graph = RestGraph(table, most)
    if graph.equal_runs() is not None:
        return None
    pairs = TailPairs(graph)
    unlike = pairs.unlike_pairs()
    if not all([pair in pairs.depths for pair in unlike]):
        return None
    return max([0] + [pairs.depths[pair] + 1 for pair in unlike])


def tail_pair(table, most, k):
    """Two runs at rest with equal tails of k and unlike owed rows, None if k deeds are enough."""
    if not is_number_to(k, MOST_TAIL):
        raise InvalidNumber("k")
    graph = RestGraph(table, most)
    equal = graph.equal_runs()
    if equal is not None:
        return equal
    pairs = TailPairs(graph)
    for pair in pairs.unlike_pairs():
        if pairs.reaches(pair, k):
            return pairs.runs_to(pair, k)
    return None


def told_apart(table, most):
    """None if equal deeds of runs at rest always leave the same row owed, otherwise two runs where they do not."""
    return RestGraph(table, most).equal_runs()


def check_tail_pair(table, k, one, other):
    """Whether any two values are runs at rest with equal tails of k and unlike owed rows."""
    if not is_number(k) or not is_rest_run(table.book, one) or not is_rest_run(table.book, other):
        return False
    if tail_of(table.book, one, k) != tail_of(table.book, other, k):
        return False
    return owed_behind(table, one) != owed_behind(table, other)


def is_rest_run(book, run):
    """Whether any value is a run that is at rest."""
    if not isinstance(run, tuple):
        return False
    useful = ranks_from_start(book)
    moment = ((book.main(), 0),)
    for move in run:
        if fault_of(book, useful, innermost(moment), move) is not None:
            return False
        moment = moment_behind(book, moment, move)
    return not run or run[-1][0] == "do"


def tail_of(book, run, k):
    """The row of the last k deeds of a run."""
    row = deeds_of(book, run)
    return row[max(0, len(row) - k):]


def owed_behind(table, run):
    """The row that is owed behind a run."""
    return table.owed(run_moments(table.book, run)[-1])
