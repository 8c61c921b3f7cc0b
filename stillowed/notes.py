"""Notes: rows that strangers do, and what is left of them when some deeds have been done."""

from stillowed.books import MOST_DEEDS, Book
from stillowed.endings import stage_ends
from stillowed.errors import Refused
from stillowed.kinds import is_number_to
from stillowed.lengths import lengths, plain
from stillowed.orders import starts_of
from stillowed.rows import begun, in_order

MOST_TOGETHER = 19


def note_plan(table, moments):
    """The lot of the rows owed at some moments, and a tuple with the index of its row for each moment."""
    owed_rows = [table.owed(moment) for moment in moments]
    rows = in_order(owed_rows)
    places = {row: at for at, row in enumerate(rows)}
    return (rows, tuple([places[row] for row in owed_rows]))


def check_plan(book, moments, rows, marks):
    """Whether rows in order are right and thrifty notes for the moments with their marks, and all of them are used."""
    if in_order(rows) != rows or len(marks) != len(moments):
        return False
    if not all([is_number_to(mark, len(rows) - 1) for mark in marks]):
        return False
    if len({mark: True for mark in marks}) < len(rows):
        return False
    least = lengths(book, plain(book))
    ends = [stage_ends(book, row) for row in rows]
    for moment, mark in zip(moments, marks):
        many = len(rows[mark])
        if many != sum([least[stage] for stage in moment]) or not (starts_of(moment, ends[mark])[-1] >> many) & 1:
            return False
    return True


def old_note(row, deeds):
    """A row without its longest beginning that lies within some deeds."""
    return row[begun(row, deeds):]


def old_book(row, deeds):
    """A book in which a row was owed and just its old note is left when some deeds are done, and the run that does."""
    other = deeds + old_note(row, deeds)
    if len(row) + len(other) > MOST_TOGETHER:
        raise Refused("long")
    if len({deed: True for deed in row + other}) > MOST_DEEDS:
        raise Refused("wide")
    steps = line(row, 1) + line(other, 1 + len(row))
    ends = {len(row): True, len(row) + len(other) if other else 0: True}
    book = Book((("main", 1 + len(row) + len(other), tuple(sorted(ends)), steps),))
    return (book, tuple([("do", len(row) + at) for at in range(len(deeds))]))


def line(row, first):
    """The steps by a row from stage 0 over the stages from `first` on."""
    numbers = [0] + list(range(first, first + len(row)))
    return tuple([(numbers[at], "do", deed, numbers[at + 1]) for at, deed in enumerate(row)])
