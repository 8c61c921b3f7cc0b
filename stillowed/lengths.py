"""Least lengths of endings by a view, and the ways and rows that have them."""

from stillowed.costs import check_weights, least_ways, least_weights, sound_order, weight_along
from stillowed.errors import Refused
from stillowed.kinds import ascending
from stillowed.steps import parts_of

MOST_DEEDS_TOGETHER = 20000


def plain(book):
    """The view in which each deed of the book stands for itself."""
    return {deed: (deed,) for deed in book.deeds()}


def lengths(book, view):
    """A dict from each useful stage to the least length of its endings by the view."""
    return least_weights(book, row_lengths(book, view))


def ways(book, view):
    """A dict from each useful stage to its first way with the least cost."""
    return least_ways(book, row_lengths(book, view))


def row_lengths(book, view):
    """The lengths of the view's rows for the deeds of the book."""
    return {deed: len(view[deed]) for deed in book.deeds()}


def rows_along(book, view, chosen):
    """A dict from the keys of a sound dict of ways to the rows that the ways make."""
    rows = rows_if_short(book, view, chosen)
    if rows is None:
        raise Refused("long")
    return rows


def rows_if_short(book, view, chosen):
    """What `rows_along` returns, None if it refuses these ways."""
    weights = row_lengths(book, view)
    order = sound_order(book, chosen)
    # The lengths come first: rows along ways may be too long to be made at all.
    sizes = {}
    for stage in order:
        sizes[stage] = weight_along(book, weights, sizes, stage, chosen[stage])
    if sum([sizes[stage] for stage in sizes]) > MOST_DEEDS_TOGETHER:
        return None
    rows = {}
    for stage in order:
        rows[stage] = row_along(book, view, rows, stage, chosen[stage])
    return ascending(rows)


def row_along(book, view, rows, stage, way):
    """The row that a way makes out of the rows of its parts."""
    if way == ("end",):
        return ()
    step = book.steps(stage[0])[way[1]]
    row = () if step[1] == "call" else view[step[2]]
    for part in parts_of(stage[0], step):
        row = row + rows[part]
    return row


def chosen_rows(book, view):
    """The rows along `ways(book, view)`."""
    return rows_along(book, view, ways(book, view))


def check_lengths(book, view, table, chosen):
    """Whether a table of lengths and a sound dict of ways prove each other."""
    return check_weights(book, row_lengths(book, view), table, chosen)
