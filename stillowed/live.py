"""Books that change while they are run."""

from stillowed.altered import altered
from stillowed.books import Book
from stillowed.errors import InvalidMove, NoEnding, Refused
from stillowed.kinds import is_number
from stillowed.ledger import booked
from stillowed.lengths import plain
from stillowed.moving import fault_of, stages_before, stages_put
from stillowed.owed import OwedTable, court
from stillowed.single import owed_at
from stillowed.useful import ranks


class Live:
    """A book that changes while it is run, by moves and changes that can be taken back."""

    def __init__(self, book):
        self.book = book
        self._present = book
        self._useful = ranks(book)
        self._run = []
        # The stages of the present moment, the innermost one last. No change touches them.
        self._opened = [(book.main(), 0)]
        # For each move and change what takes it back: ("move", stage, how many came in its place) or
        # ("change", book, run).
        self._past = []

    def present(self):
        """The book as of now."""
        return self._present

    def run(self):
        """The moves made so far."""
        return tuple(self._run)

    def changes(self):
        """How many moves and changes can be taken back."""
        return len(self._past)

    def do(self, move):
        """Make any value that is a let move."""
        self._check_start()
        stage = self._opened[-1] if self._opened else None
        word = fault_of(self._present, self._useful, stage, move)
        if word is not None:
            raise InvalidMove(word)
        onward = stages_put(self._present, stage, move)
        self._past.append(("move", stage, len(onward)))
        self._run.append(move)
        self._opened.pop()
        self._opened.extend(onward[::-1])

    def put_course(self, course):
        """Put any value that is a course behind the others."""
        self._change(Book(self._present.courses + (course,)), self._run)

    def put_step(self, name, step):
        """Put any value that is a step behind the others of a course."""
        steps = self._steps_of(name)
        if step in steps:
            raise InvalidMove("step")
        self._change(altered(self._present, {}, {name: steps + (step,)}), self._run)

    def bar_step(self, name, k):
        """Remove a step of a course, told by any value that is its number."""
        steps = self._steps_of(name)
        if not is_number(k) or k >= len(steps):
            raise InvalidMove("step")
        changed = altered(self._present, {}, {name: steps[:k] + steps[k + 1:]})
        stages = stages_before(self._present, self._useful, self._run)
        pairs = list(zip(stages, self._run))
        if any([stage[0] == name and move[1:] == (k,) for stage, move in pairs]):
            raise Refused("run")
        self._change(changed, [renumbered(stage, move, name, k) for stage, move in pairs])

    def put_end(self, stage):
        """Let a course end at any value that is one of its stages."""
        if not self._present.is_stage(stage) or self._present.is_end(stage):
            raise InvalidMove("end")
        ends = tuple(sorted(self._present.ends(stage[0]) + (stage[1],)))
        self._change(altered(self._present, {stage[0]: ends}, {}), self._run)

    def bar_end(self, stage):
        """Let a course no longer end at any value that is one of its ends."""
        if not self._present.is_stage(stage) or not self._present.is_end(stage):
            raise InvalidMove("end")
        ends = tuple([number for number in self._present.ends(stage[0]) if number != stage[1]])
        self._change(altered(self._present, {stage[0]: ends}, {}), self._run)

    def undo(self):
        """Take back the last move or change."""
        if not self._past:
            raise Refused("undo")
        word, first, second = self._past.pop()
        if word == "move":
            for _ in range(second):
                self._opened.pop()
            self._opened.append(first)
            self._run.pop()
        else:
            self._present = first
            self._useful = ranks(first)
            self._run = second

    def moment(self):
        """The present moment."""
        self._check_start()
        return tuple(reversed(self._opened))

    def verdict(self):
        """What `court` says of the book as of now."""
        return court(self._present, plain(self._present))

    def owed(self):
        """The row owed at the present moment, None if there is none."""
        return owed_at(self._present, plain(self._present), self.moment())

    def ledger(self):
        """A ledger after the moves made so far."""
        table = self.verdict()
        if not isinstance(table, OwedTable):
            raise Refused("torn")
        return booked(table, self.run())

    def _check_start(self):
        """Raise NoEnding if no run can begin."""
        first = (self._present.main(), 0)
        if first not in self._useful:
            raise NoEnding(first)

    def _steps_of(self, name):
        """The steps of a course; raises InvalidMove("course") if no course has any value as its name."""
        if self._present.index_of(name) is None:
            raise InvalidMove("course")
        return self._present.steps(name)

    def _change(self, book, run):
        """Put a book in the place of the present one, with the same run, unless it is no run of it."""
        useful = ranks(book)
        if len(stages_before(book, useful, run)) < len(run):
            raise Refused("run")
        self._past.append(("change", self._present, self._run))
        self._present = book
        self._useful = useful
        # A change that keeps the moves as they are keeps their list: what is put behind them is taken back first.
        self._run = run


def renumbered(stage, move, name, k):
    """A move from a stage when the step number k of a course is gone."""
    if stage[0] == name and len(move) == 2 and move[1] > k:
        return (move[0], move[1] - 1)
    return move
