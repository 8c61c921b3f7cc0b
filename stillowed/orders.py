"""Rows that strangers do: whether they can be done, and what is left behind a part of one."""

from heapq import heappop, heappush

from stillowed.endings import bits_at, stage_ends
from stillowed.errors import Refused
from stillowed.lists import few_least_rows
from stillowed.rows import within
from stillowed.steps import all_in, steps_into, steps_out
from stillowed.useful import ranks

LONGEST_ROW = 24
MOST_MOVES = 20000
MOST_RESTS = 20


def check_length(row):
    """Raise Refused("long") if a row has more than 24 deeds."""
    if len(row) > LONGEST_ROW:
        raise Refused("long")


def places_in(bits):
    """The ascending places whose bits are set."""
    return [place for place in range(bits.bit_length()) if (bits >> place) & 1]


def starts_of(moment, ends):
    """For each stage of a moment, and for its end, the bits of the places of the row at which it can be begun."""
    found = [1]
    for stage in moment:
        bits = 0
        for place in places_in(found[-1]):
            bits |= ends[stage][place]
        found.append(bits)
    return found


class Doing:
    """How far a row can be done from a moment: the pairs (stage, place of the row) that runs reach innermost."""

    def __init__(self, book, moment, row):
        self.book = book
        self.row = row
        self.useful = ranks(book)
        self.ends = stage_ends(book, row)
        self.starts = starts_of(moment, self.ends)
        self.found = {}
        waiting = []
        for at, stage in enumerate(moment):
            waiting.extend([(stage, place) for place in places_in(self.starts[at])])
        while waiting:
            pair = waiting.pop()
            if pair not in self.found:
                self.found[pair] = True
                waiting.extend(self.onward(pair[0], pair[1]))

    def onward(self, stage, place):
        """The pairs to which steps lead from a stage at a place."""
        found = []
        for k, parts in steps_out(self.book, stage):
            step = self.book.steps(stage[0])[k]
            if not all_in(parts, self.useful):
                continue
            if step[1] == "call":
                found.append((parts[0], place))
                found.extend([(parts[1], onto) for onto in places_in(self.ends[parts[0]][place])])
            elif self.row[place:place + 1] == (step[2],):
                found.append((parts[0], place + 1))
        return found

    def is_ending(self):
        """Whether the row is an ending of the moment."""
        return (self.starts[-1] >> len(self.row)) & 1 == 1


def wrong_at(book, moment, row):
    """None if the row is an ending of the moment, otherwise how much of it can be done."""
    check_length(row)
    doing = Doing(book, moment, row)
    if doing.is_ending():
        return None
    return max([0] + [place for _, place in doing.found])


def next_deeds(book, moment, row):
    """The lot of the deeds that can be done behind a row."""
    check_length(row)
    doing = Doing(book, moment, row)
    found = {}
    for stage, place in doing.found:
        if place == len(row):
            for k, parts in steps_out(book, stage):
                step = book.steps(stage[0])[k]
                if step[1] == "do" and all_in(parts, doing.useful):
                    found[step[2]] = True
    return tuple(sorted(found))


class RowFinishes:
    """For each stage and place of a row, the fewest moves of finishes by the next deeds of the row.

    A fact (stage, place, place behind) has the pair (moves, made): made is the step and the facts of its parts.
    """

    def __init__(self, book, row):
        self.book = book
        self.row = row
        self.into = steps_into(book)
        self.facts = {}
        # For each stage and place, the facts that begin there, and those that end there.
        self.begun = {}
        self.ended = {}
        self.queue = []
        for stage in book.stages():
            if book.is_end(stage):
                for place in range(len(row) + 1):
                    heappush(self.queue, (1, (stage, place, place), ()))
        while self.queue:
            moves_made, fact, made = heappop(self.queue)
            if fact not in self.facts:
                self.facts[fact] = (moves_made, made)
                self.begun.setdefault((fact[0], fact[1]), []).append(fact)
                self.ended.setdefault((fact[0], fact[2]), []).append(fact)
                self.use(fact)

    def use(self, fact):
        """Keep the finishes that steps make with a new one of a part."""
        stage, place, onto = fact
        for user, step, parts in self.into[stage]:
            if step[1] == "do":
                if place > 0 and self.row[place - 1] == step[2]:
                    self.put((user, place - 1, onto), step, (fact,))
                continue
            if parts[0] == stage:
                for other in list(self.begun.get((parts[1], onto), ())):
                    self.put((user, place, other[2]), step, (fact, other))
            if parts[1] == stage:
                for other in list(self.ended.get((parts[0], place), ())):
                    self.put((user, other[1], onto), step, (other, fact))

    def put(self, fact, step, inner):
        """Keep a finish until it is due."""
        if fact not in self.facts:
            heappush(self.queue, (1 + sum([self.facts[part][0] for part in inner]), fact, (step, inner)))

    def moves_of(self, fact):
        """The moves of the finish of a fact."""
        run = []
        waiting = [fact]
        while waiting:
            made = self.facts[waiting[-1]][1]
            stage = waiting.pop()[0]
            if not made:
                run.append(("leave",))
                continue
            step, inner = made
            run.append((step[1], self.book.steps(stage[0]).index(step)))
            waiting.extend(inner[::-1])
        return run


def run_by(book, moment, row):
    """Some run with these deeds from a moment to the end with as few moves as possible, None if there is none."""
    check_length(row)
    finishes = RowFinishes(book, row)
    # For each place of the row: the fewest moves from here on, and the facts along them.
    best = {len(row): (0, ())}
    for stage in reversed(moment):
        best = best_before(finishes, stage, best)
    if 0 not in best:
        return None
    many, facts = best[0]
    if many > MOST_MOVES:
        raise Refused("long")
    run = []
    while facts:
        run.extend(finishes.moves_of(facts[0]))
        facts = facts[1]
    return tuple(run)


def best_before(finishes, stage, best):
    """For each place of the row: the fewest moves to the end from a stage over what `best` tells, and the facts.

    The facts are told as a pair of the first one and the facts behind it.
    """
    found = {}
    for place in range(len(finishes.row) + 1):
        options = [(finishes.facts[fact][0] + best[fact[2]][0], fact) for fact in finishes.begun.get((stage, place), ())
                   if fact[2] in best]
        if options:
            many, fact = min(options)
            found[place] = (many, (fact, best[fact[2]][1]))
    return found


def spans(book, row):
    """All triples (stage, i, j) of which the row from i to j is an ending of the stage, ascending."""
    check_length(row)
    ends = stage_ends(book, row)
    starts = [(stage, i) for stage in book.stages() for i in range(len(row) + 1)]
    return tuple([(stage, i, j) for stage, i in starts for j in places_in(ends[stage][i])])


def check_no(book, moment, row, triples):
    """Whether some triples are closed and none of them lead through the stages of the moment to the row's end."""
    check_length(row)
    ends = {stage: [0] * (len(row) + 1) for stage in book.stages()}
    for stage, i, j in triples:
        ends[stage][i] |= 1 << j
    for stage in book.stages():
        for place in range(len(row) + 1):
            if bits_at(book, row, ends, stage, place) & ~ends[stage][place]:
                return False
    return (starts_of(moment, ends)[-1] >> len(row)) & 1 == 0


class RestSearch:
    """Finds, for each met stage and place of a row, the least rows with which what is left of the row goes on.

    They are found in order: what is made of a row is not shorter, and equals it if it is as long.
    """

    def __init__(self, table, row):
        self.table = table
        self.row = row
        self.ends = stage_ends(table.book, row)
        self.into = steps_into(table.book)
        self.rows = {(stage, place): [] for stage in table.rows for place in range(len(row) + 1)}
        self.queue = []
        for stage in table.rows:
            self.put(stage, len(row), table.rows[stage])
        while self.queue:
            _, rest, stage, place = heappop(self.queue)
            if not self.is_held(stage, place, rest):
                self.rows[(stage, place)].append(rest)
                if len(self.rows[(stage, place)]) > MOST_RESTS:
                    raise Refused("wide")
                self.use(stage, place, rest)

    def put(self, stage, place, rest):
        """Keep a row until its length is due."""
        heappush(self.queue, (len(rest), rest, stage, place))

    def is_held(self, stage, place, rest):
        """Whether a row found lies within another one."""
        return any([within(shorter, rest) for shorter in self.rows[(stage, place)]])

    def use(self, stage, place, rest):
        """Put the rows that steps make with a new one of a part."""
        for user, step, parts in self.into[stage]:
            if user not in self.table.rows or not all_in(parts, self.table.rows):
                continue
            if step[1] == "do":
                if place > 0 and self.row[place - 1] == step[2]:
                    self.put(user, place - 1, rest)
                continue
            if parts[0] == stage and place < len(self.row):
                self.put(user, place, rest + self.table.rows[parts[1]])
            if parts[1] == stage:
                for before in range(min(place + 1, len(self.row))):
                    if (self.ends[parts[0]][before] >> place) & 1:
                        self.put(user, before, rest)

    def of_moment(self, moment):
        """The least rows with which the row goes on from a moment."""
        starts = starts_of(moment, self.ends)
        found = [()] if (starts[-1] >> len(self.row)) & 1 else []
        for at, stage in enumerate(moment):
            behind = self.table.owed(moment[at + 1:])
            for place in places_in(starts[at]):
                found.extend([rest + behind for rest in self.rows[(stage, place)]])
        return few_least_rows(found, MOST_RESTS)


def rests(table, moment, row):
    """The least rows with which a row is made an ending of the moment, in order."""
    check_length(row)
    return RestSearch(table, row).of_moment(moment)
