"""Counts: how often endings have each deed."""

from heapq import heappop, heappush

from stillowed.costs import least_weights
from stillowed.errors import NoEnding, Refused
from stillowed.steps import steps_into
from stillowed.useful import ranks

MOST_COUNTS = 60


def deed_counts(book, row):
    """How often a row of deeds of the book has each of its deeds."""
    return tuple([row.count(deed) for deed in book.deeds()])


def floors(book):
    """A dict from each useful stage to the tuple of the least numbers of each deed in its endings."""
    tables = [lot_floors(book, (deed,)) for deed in book.deeds()]
    return {stage: tuple([table[stage] for table in tables]) for stage in ranks(book)}


def lot_floors(book, lot):
    """A dict from each useful stage to the least number of deeds of a lot in its endings."""
    return least_weights(book, {deed: 1 if deed in lot else 0 for deed in book.deeds()})


def goes_together(book, stage, lot):
    """Whether one ending of a stage has the least number of each deed of a lot."""
    check_useful(book, stage)
    return fits_together(book, floors(book)[stage], stage, lot)


def check_useful(book, stage):
    """Raise NoEnding if the stage is not useful."""
    if stage not in ranks(book):
        raise NoEnding(stage)


def fits_together(book, least, stage, lot):
    """Whether the least number of deeds of a lot is the sum of their least numbers."""
    apart = sum([least[at] for at, deed in enumerate(book.deeds()) if deed in lot])
    return lot_floors(book, lot)[stage] == apart


def conflict(book, stage):
    """Some lot that does not go together at a stage, but does without any one of its deeds; None if there is none."""
    check_useful(book, stage)
    least = floors(book)[stage]
    lot = book.deeds()
    if fits_together(book, least, stage, lot):
        return None
    for deed in book.deeds():
        fewer = tuple([one for one in lot if one != deed])
        if not fits_together(book, least, stage, fewer):
            lot = fewer
    return lot


def least_counts(book):
    """A dict from each useful stage to the tuple of the least counts of its endings, in order."""
    search = CountSearch(book)
    found = search.taken()
    while found is not None:
        if len(search.counts[found[0]]) > MOST_COUNTS:
            raise Refused("wide")
        found = search.taken()
    return search.least_table()


def check_counts(book, table):
    """Whether a dict is `least_counts(book)`, however many counts a stage has."""
    search = CountSearch(book)
    found = search.taken()
    while found is not None:
        stage, count = found
        if count not in table.get(stage, ()):
            return False
        found = search.taken()
    return table == search.least_table()


class CountSearch:
    """Finds the least counts of all stages, those with lesser sums first.

    A least count is made of least counts of the parts, whose sums are not greater. So what is found when its sum
    is due is a least count, unless an earlier one of the stage is at most it. All are found in order: a count with
    the sum of one of its parts equals the count of this part.
    """

    def __init__(self, book):
        self.book = book
        self.into = steps_into(book)
        self.counts = {stage: [] for stage in book.stages()}
        self.units = {deed: deed_counts(book, (deed,)) for deed in book.deeds()}
        self.queue = []
        self.queued = {}
        empty = deed_counts(book, ())
        for stage in book.stages():
            if book.is_end(stage):
                self.put(stage, empty)

    def put(self, stage, count):
        """Keep a count of an ending of a stage until its sum is due."""
        if (stage, count) not in self.queued:
            self.queued[(stage, count)] = True
            heappush(self.queue, (sum(count), count, stage))

    def taken(self):
        """The next pair (stage, least count of it), None if there are no more."""
        while self.queue:
            _, count, stage = heappop(self.queue)
            if not self.is_reached(stage, count):
                self.counts[stage].append(count)
                self.use(stage, count)
                return (stage, count)
        return None

    def is_reached(self, stage, count):
        """Whether a least count found for a stage is at most a count."""
        for earlier in self.counts[stage]:
            if is_at_most(earlier, count):
                return True
        return False

    def least_table(self):
        """What has been found."""
        return {stage: tuple(self.counts[stage]) for stage in self.counts if self.counts[stage]}

    def use(self, stage, count):
        """Put the counts that steps make with a new count of a part."""
        for user, step, parts in self.into[stage]:
            # What has a least count within it already is no other one, whatever is added.
            if self.is_reached(user, count):
                continue
            if step[1] == "do":
                self.put(user, added(self.units[step[2]], count))
                continue
            if parts[0] == stage:
                for other in self.counts[parts[1]]:
                    self.put(user, added(count, other))
            if parts[1] == stage:
                for other in self.counts[parts[0]]:
                    self.put(user, added(count, other))


def is_at_most(count, other):
    """Whether each number of a count is at most that of the other one."""
    for at, number in enumerate(count):
        if number > other[at]:
            return False
    return True


def added(count, other):
    """The sum of two counts."""
    return tuple([count[at] + other[at] for at in range(len(count))])
