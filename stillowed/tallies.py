"""How many finishes stages have, and their numbers."""

from stillowed.errors import InvalidMove, InvalidNumber, Refused
from stillowed.kinds import is_number_to
from stillowed.moving import fault_of, stages_put
from stillowed.steps import steps_out

MOST_MOVES = 30


def run_count(book, stage, moves):
    """How many finishes of a stage have just so many moves."""
    if not is_number_to(moves, MOST_MOVES):
        raise InvalidNumber("moves")
    return tallies(book)[stage][moves]


def tallies(book):
    """For each stage a list: how many finishes have 0, 1, and so on to 30 moves."""
    found = {stage: [0] * (MOST_MOVES + 1) for stage in book.stages()}
    for many in range(1, MOST_MOVES + 1):
        for stage in book.stages():
            total = 1 if many == 1 and book.is_end(stage) else 0
            for _, parts in steps_out(book, stage):
                total += together(found, parts, many - 1)
            found[stage][many] = total
    return found


def together(found, parts, many):
    """How many finishes of the parts one after another have so many moves."""
    if len(parts) == 1:
        return found[parts[0]][many]
    inner = found[parts[0]]
    outer = found[parts[1]]
    return sum([inner[taken] * outer[many - taken] for taken in range(1, many)])


class FinishNumbers:
    """A walk along a finish of a stage, with the numbers of finishes that go other ways."""

    def __init__(self, book, stage):
        self.book = book
        self.table = tallies(book)
        # The open stages, the innermost last, each with the tally from it and those before it.
        self.opened = [(None, [1] + [0] * MOST_MOVES)]
        self.put(stage)

    def put(self, stage):
        """Put a stage on top."""
        self.opened.append((stage, joined(self.table[stage], self.opened[-1][1])))

    def innermost_stage(self):
        """The innermost stage, None at the end."""
        return self.opened[-1][0]

    def many_from_here(self, total):
        """How many finishes with so many moves there are from here."""
        return self.opened[-1][1][total]

    def moves_here(self):
        """The moves from here, in their order."""
        stage = self.innermost_stage()
        if stage is None:
            return []
        found = [("leave",)] if self.book.is_end(stage) else []
        steps = self.book.steps(stage[0])
        return found + [(steps[k][1], k) for k in self.book.steps_from(stage)]

    def make(self, move):
        """Make one of these moves."""
        stage = self.opened.pop()[0]
        for part in reversed(stages_put(self.book, stage, move)):
            self.put(part)

    def many_behind(self, move, total):
        """How many finishes with so many moves there are behind one of these moves."""
        kept = list(self.opened)
        self.make(move)
        many = self.many_from_here(total)
        self.opened = kept
        return many


def joined(tally, other):
    """The tally of finishes of one and of another one behind it."""
    return [sum([tally[taken] * other[many - taken] for taken in range(many + 1)]) for many in range(MOST_MOVES + 1)]


def nth_run(book, stage, n):
    """The finish number `n` of a stage, None if no more than `n` have at most 30 moves."""
    walk = FinishNumbers(book, stage)
    for total in range(1, MOST_MOVES + 1):
        if n < walk.many_from_here(total):
            return run_numbered(walk, total, n)
        n -= walk.many_from_here(total)
    return None


def run_numbered(walk, total, n):
    """The finish number `n` of those with so many moves."""
    run = []
    while total > 0:
        total -= 1
        for move in walk.moves_here():
            many = walk.many_behind(move, total)
            if n < many:
                run.append(move)
                walk.make(move)
                break
            n -= many
    return tuple(run)


def place_of_run(book, stage, run):
    """The number of a finish of a stage."""
    if len(run) > MOST_MOVES:
        raise Refused("long")
    check_finish(book, stage, run)
    walk = FinishNumbers(book, stage)
    number = sum([walk.many_from_here(total) for total in range(len(run))])
    for at, move in enumerate(run):
        left = len(run) - at - 1
        for other in walk.moves_here():
            if other == move:
                break
            number += walk.many_behind(other, left)
        walk.make(move)
    return number


def check_finish(book, stage, run):
    """Raise InvalidMove for the first move that cannot be made, or if the end is not reached."""
    every = {one: True for one in book.stages()}
    opened = [stage]
    for at, move in enumerate(run):
        top = opened[-1] if opened else None
        if fault_of(book, every, top, move) is not None:
            raise InvalidMove(at)
        opened.pop()
        opened.extend(stages_put(book, top, move)[::-1])
    if opened:
        raise InvalidMove(len(run))
