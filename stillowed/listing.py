"""The search for least endings."""

from heapq import heappop, heappush

from stillowed.errors import Refused
from stillowed.rows import within
from stillowed.steps import steps_into


class ListSearch:
    """Finds the least endings of all stages by a view, the shorter ones first.

    A least ending is made of least endings of the parts, which are not longer. So what is found when its length is
    due is a least ending, unless an earlier one of the stage lies within it. All are found in order: a row with the
    length of one of its parts equals the row of this part.

    With `called`, a dict of lists, called courses have the endings of these lists and no others.
    """

    def __init__(self, book, view, called, most, longest):
        self.book = book
        self.view = view
        self.called = called
        self.most = most
        self.longest = longest
        self.into = steps_into(book)
        self.rows = {stage: [] for stage in book.stages()}
        self.queue = []
        self.queued = {}
        for stage in book.stages():
            if book.is_end(stage):
                self.put(stage, ())

    def put(self, stage, row):
        """Keep an ending of a stage until its length is due."""
        if (stage, row) not in self.queued:
            self.queued[(stage, row)] = True
            heappush(self.queue, (len(row), row, stage))

    def found(self):
        """A dict from each stage with an ending to the tuple of its least ones."""
        while self.queue:
            _, row, stage = heappop(self.queue)
            if self.is_held(stage, row):
                continue
            self.rows[stage].append(row)
            if len(self.rows[stage]) > self.most or len(row) > self.longest:
                raise Refused("wide")
            self.use(stage, row)
        return {stage: tuple(self.rows[stage]) for stage in self.rows if self.rows[stage]}

    def is_held(self, stage, row):
        """Whether a least ending found for a stage lies within a row."""
        for shorter in self.rows[stage]:
            if within(shorter, row):
                return True
        return False

    def use(self, stage, row):
        """Put the endings that steps make with a new ending of a part."""
        for user, step, parts in self.into[stage]:
            # What holds a least ending needs no more deeds: it is no other one.
            if self.is_held(user, row):
                continue
            if step[1] == "do":
                self.put(user, self.view[step[2]] + row)
                continue
            if parts[0] == stage and self.called is None:
                for other in self.rows[parts[1]]:
                    self.put(user, row + other)
            if parts[1] == stage:
                for other in self.rows_called(parts[0]):
                    self.put(user, other + row)

    def rows_called(self, stage):
        """The least endings so far of the first stage of a called course."""
        if self.called is None:
            return self.rows[stage]
        return self.called.get(stage, ())
