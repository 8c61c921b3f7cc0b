"""What is said of a book and a dealing: rows owed by it, a desk that splits, or desks that never come together."""

from stillowed.dealings import part, parts
from stillowed.errors import NoEnding
from stillowed.kinds import copied


class DealtTable:
    """For each met stage of a book the row that it owes by a dealing, with a way that makes it and a rank."""

    def __init__(self, book, dealing, rows, ways, ranks):
        self.book = book
        self.dealing = dealing
        self.rows = copied(rows)
        self.ways = copied(ways)
        self.ranks = copied(ranks)

    def row(self, stage):
        """The row of a key."""
        if stage not in self.rows:
            raise NoEnding(stage)
        return self.rows[stage]

    def part_at(self, desk, stage):
        """The part of the row of a key at a desk."""
        return part(self.dealing, desk, self.row(stage))

    def owed(self, moment):
        """The rows of the stages of a moment, one after another."""
        found = []
        for stage in moment:
            found.extend(self.row(stage))
        return tuple(found)

    def parts_at(self, moment):
        """The ascending tuple of pairs of each desk and the part at it of what a moment owes."""
        return parts(self.dealing, self.owed(moment))


class DeskSplit:
    """A desk by whose view a book is not clear, and two endings by this view."""

    def __init__(self, desk, two):
        self.desk = desk
        self.two = two


class NeverTogether:
    """A stage at which no ending has for all desks what each desk's table tells.

    `one` is a shortest ending, which has more at `desk` than its table tells; `other` has no more there.
    """

    def __init__(self, stage, trail, tables, desk, one, other):
        self.stage = stage
        self.trail = trail
        self.tables = tables
        self.desk = desk
        self.one = one
        self.other = other
