"""What single stages and moments owe, in any book."""

from heapq import heappop, heappush

from stillowed.errors import NoEnding, Refused
from stillowed.kinds import ascending
from stillowed.lengths import chosen_rows
from stillowed.met import met
from stillowed.owed import joined_row
from stillowed.rows import within
from stillowed.steps import all_in, steps_into, steps_out
from stillowed.useful import ranks

LONGEST_COUNTERED = 40
LONGEST_ENDING = 400


def progress(book, view, row):
    """For each useful stage: to which place at least its endings lead when they are fitted from each place on."""
    search = FitSearch(book, view, row)
    return {stage: tuple(search.least[stage]) for stage in ranks(book)}


class FitSearch:
    """Finds the least places to which endings lead, from the end of the row backwards.

    With a greater place to begin with, each ending leads at least as far; so least places can be put together.
    """

    def __init__(self, book, view, row):
        self.book = book
        self.size = len(row)
        self.into = steps_into(book)
        self.fitted = {deed: fitted_places(view[deed], row) for deed in book.deeds()}
        self.least = {stage: [None] * (len(row) + 1) for stage in book.stages()}
        self.queue = []
        for place in reversed(range(len(row) + 1)):
            self.settle(place)

    def settle(self, place):
        """Find the least places that are reached from a place; those from later places are known."""
        for stage in self.book.stages():
            if self.book.is_end(stage):
                heappush(self.queue, (place, stage))
            for k in self.book.steps_from(stage):
                step = self.book.steps(stage[0])[k]
                if step[1] == "do" and self.fitted[step[2]][place] > place:
                    self.put(stage, self.least[(stage[0], step[3])][self.fitted[step[2]][place]])
        while self.queue:
            onto, stage = heappop(self.queue)
            if self.least[stage][place] is None:
                self.least[stage][place] = onto
                self.use(stage, place)

    def put(self, stage, onto):
        """Keep a place that is reached from a stage until it is due; None is none."""
        if onto is not None:
            heappush(self.queue, (onto, stage))

    def use(self, stage, place):
        """Keep what the steps that lead to a stage reach by it."""
        for user, step, parts in self.into[stage]:
            if self.least[user][place] is not None:
                continue
            if step[1] == "do":
                if self.fitted[step[2]][place] == place:
                    self.put(user, self.least[stage][place])
                continue
            middle = self.least[parts[0]][place]
            if middle is not None:
                self.put(user, self.least[parts[1]][middle])


def fitted_places(shown, row):
    """For each place of a row, the place to which fitting some deeds leads."""
    found = list(range(len(row) + 1))
    for deed in shown:
        found = [place + 1 if place < len(row) and row[place] == deed else place for place in found]
    return found


def lies_in_all(book, view, stage, row):
    """Whether the row lies within each ending of the stage."""
    found = progress(book, view, row)
    if stage not in found:
        raise NoEnding(stage)
    return found[stage][0] == len(row)


def counter(book, view, stage, row):
    """Some shortest ending of the stage within which the row does not lie, None if there is none."""
    if stage not in ranks(book):
        raise NoEnding(stage)
    if len(row) > LONGEST_COUNTERED:
        raise Refused("long")
    if lies_in_all(book, view, stage, row):
        return None
    return CounterSearch(book, view, row).found(stage)


class CounterSearch:
    """Finds the shortest endings that lead from places of a row to places before its end.

    A fact (stage, place, place reached) stands for the first ending found; an ending that is not shorter and does
    not reach a lesser place is of no use.
    """

    def __init__(self, book, view, row):
        self.book = book
        self.view = view
        self.row = row
        self.into = steps_into(book)
        self.fitted = {deed: fitted_places(view[deed], row) for deed in book.deeds()}
        # For each stage and place, a dict from the places reached to (length, step or None, facts of the parts).
        self.facts = {stage: [{} for _ in row] for stage in book.stages()}
        self.queue = []
        for stage in book.stages():
            if book.is_end(stage):
                for place in range(len(row)):
                    self.put((stage, place, place), 0, None, ())

    def put(self, fact, length, step, inner):
        """Keep an ending until its length is due."""
        if fact[2] < len(self.row) and length <= LONGEST_ENDING and not self.is_useless(fact):
            heappush(self.queue, (length, fact[2], fact, step or (), inner))

    def is_useless(self, fact):
        """Whether a fact found reaches no greater place."""
        stage, place, onto = fact
        return min(self.facts[stage][place], default=len(self.row)) <= onto

    def found(self, goal):
        """The shortest ending of the stage from the row's beginning."""
        while self.queue:
            length, onto, fact, step, inner = heappop(self.queue)
            if self.is_useless(fact):
                continue
            stage, place, _ = fact
            self.facts[stage][place][onto] = (length, step, inner)
            if stage == goal and place == 0:
                return self.row_of(fact)
            self.use(stage, place, onto)
        raise Refused("long")

    def use(self, stage, place, onto):
        """Keep the endings that steps make with a new one of a part."""
        length = self.facts[stage][place][onto][0]
        for user, step, parts in self.into[stage]:
            if step[1] == "do":
                for before in range(len(self.row)):
                    if self.fitted[step[2]][before] == place:
                        self.put((user, before, onto), length + len(self.view[step[2]]), step, ((stage, place, onto),))
                continue
            if parts[0] == stage:
                self.put_pairs(user, step, (stage, place, onto), None)
            if parts[1] == stage:
                self.put_pairs(user, step, None, (stage, place, onto))

    def put_pairs(self, user, step, first, second):
        """Keep the endings made of a fact of one part and all that go with it of the other part."""
        if first is not None:
            rest = (user[0], step[3])
            seconds = [(rest, first[2], onto) for onto in self.facts[rest][first[2]]]
            pairs = [(first, other) for other in seconds]
        else:
            called = (step[2], 0)
            places = range(second[1] + 1)
            firsts = [(called, place, second[1]) for place in places if second[1] in self.facts[called][place]]
            pairs = [(other, second) for other in firsts]
        for one, other in pairs:
            self.put((user, one[1], other[2]), self.length(one) + self.length(other), step, (one, other))

    def length(self, fact):
        """The length of the ending of a fact."""
        return self.facts[fact[0]][fact[1]][fact[2]][0]

    def row_of(self, fact):
        """The ending that a fact stands for."""
        rows = {}
        waiting = [fact]
        while waiting:
            one = waiting[-1]
            _, step, inner = self.facts[one[0]][one[1]][one[2]]
            missing = [part for part in inner if part not in rows]
            if missing:
                waiting.extend(missing)
                continue
            waiting.pop()
            row = self.view[step[2]] if step and step[1] == "do" else ()
            for part in inner:
                row = row + rows[part]
            rows[one] = row
        return rows[fact]


def owed_at(book, view, moment):
    """The row owed at a tuple of stages, None if none is."""
    useful = ranks(book)
    for stage in moment:
        if stage not in useful:
            raise NoEnding(stage)
    found = owing_among(book, view, moment)
    if not all_in(moment, found):
        return None
    row = []
    for stage in moment:
        row.extend(found[stage])
    return tuple(row)


def owing(book, view):
    """A dict from each met stage that owes a row to this row."""
    return owing_among(book, view, tuple(met(book)))


def owing_among(book, view, stages):
    """A dict from those of some useful stages that owe a row to their chosen rows, which are shortest endings."""
    every = chosen_rows(book, view)
    rows = ascending({stage: every[stage] for stage in stages})
    if not all([len(rows[stage]) <= LONGEST_ENDING for stage in rows]):
        raise Refused("long")
    held = held_stages(book, view, every)
    asked = {stage: rows[stage] for stage in rows if held[stage] is None}
    answers = answers_of(book, view, asked)
    return {stage: rows[stage] for stage in rows if held[stage] or (stage in answers and answers[stage])}


def held_stages(book, view, rows):
    """For each useful stage, by looks at its steps: True if it owes its row, False if not, None if they do not tell.

    A stage does not owe its row if it does not lie within what a step makes of the rows of its parts. It owes it if
    it and all stages that steps lead to pass this test.
    """
    held = {stage: True for stage in rows}
    for stage in rows:
        if not passes(book, view, rows, stage):
            held[stage] = False
    waiting = [stage for stage in rows if held[stage] is False]
    into = steps_into(book)
    while waiting:
        stage = waiting.pop()
        for user, _, parts in into[stage]:
            if all_in(parts, rows) and held[user]:
                held[user] = None
                waiting.append(user)
    return held


def passes(book, view, rows, stage):
    """Whether the row of a stage lies within what each of its steps makes; at an end it is empty."""
    for k, parts in steps_out(book, stage):
        if all_in(parts, rows) and not within(rows[stage], joined_row(book, view, rows, stage, k)):
            return False
    return True


def answers_of(book, view, rows):
    """For each of some stages whether its row lies within all its endings.

    A row that is the end of another one needs no search of its own: it is asked for from a later place on.
    """
    answers = {}
    left = [stage for _, stage in sorted([(-len(rows[stage]), stage) for stage in rows])]
    while left:
        longest = rows[left[0]]
        search = FitSearch(book, view, longest)
        for stage in left:
            if is_end_of(rows[stage], longest):
                answers[stage] = search.least[stage][len(longest) - len(rows[stage])] == len(longest)
        left = [stage for stage in left if stage not in answers]
    return answers


def is_end_of(row, other):
    """Whether one row is the end of another one."""
    return len(row) <= len(other) and other[len(other) - len(row):] == row
