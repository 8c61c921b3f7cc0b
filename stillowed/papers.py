"""Certificates of owed rows, checked."""

from stillowed.costs import parts_of_way
from stillowed.errors import Refused
from stillowed.lengths import check_lengths, row_along, rows_if_short
from stillowed.owed import joined_row, looks
from stillowed.rows import within
from stillowed.steps import all_in, steps_out
from stillowed.trails import check_trail
from stillowed.useful import ranks


def check_table(table):
    """Whether an OwedTable is sound."""
    book = table.book
    rows = table.rows
    if sorted(rows) != sorted(table.ways) or sorted(rows) != sorted(table.ranks) or (book.main(), 0) not in rows:
        return False
    if not is_left_by_keys(book, rows) or looks(book, table.view, rows) is not None:
        return False
    return are_made(book, table.view, rows, table.ways, table.ranks)


def is_left_by_keys(book, rows):
    """Whether each step that leaves a key has only keys as parts, or a part that is not useful."""
    useful = ranks(book)
    for stage in rows:
        for _, parts in steps_out(book, stage):
            if all_in(parts, useful) and not all_in(parts, rows):
                return False
    return True


def are_made(book, view, rows, chosen, numbers):
    """Whether each row is made by the way of its key out of rows of keys with lesser numbers."""
    for stage in rows:
        parts = parts_of_way(book, stage, chosen[stage])
        if parts is None or not all_in(parts, rows):
            return False
        if not all([numbers[part] < numbers[stage] for part in parts]):
            return False
        if rows[stage] != row_along(book, view, rows, stage, chosen[stage]):
            return False
    return True


def check_two(book, view, two):
    """Whether a TwoEndings, with any value as its trail, is sound for a book and a view."""
    found = two_if_short(book, view, two)
    if found is None:
        raise Refused("long")
    return found


def two_if_short(book, view, two):
    """What `check_two` returns, None if it refuses these two endings."""
    if not check_lengths(book, view, two.lengths, two.ways) or two.stage not in two.lengths:
        return False
    if not check_trail(book, two.stage, two.trail):
        return False
    rows = rows_if_short(book, view, two.ways)
    if rows is None:
        return None
    if two.one != rows[two.stage] or within(two.one, two.other):
        return False
    steps = [k for k, parts in steps_out(book, two.stage) if all_in(parts, rows)]
    return any([two.other == joined_row(book, view, rows, two.stage, k) for k in steps])
