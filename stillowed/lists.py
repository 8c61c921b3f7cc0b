"""Lists of least endings."""

from stillowed.errors import InvalidNumber, NoEnding, Refused
from stillowed.kinds import ascending, is_number, is_number_to
from stillowed.listing import ListSearch
from stillowed.rows import in_order, within

MOST_PRODUCTS = 2000
MOST_ROWS = 60
LONGEST_ROW = 40


def row_by(view, row):
    """The row by a view of a row of deeds."""
    found = []
    for deed in row:
        found.extend(view[deed])
    return tuple(found)


def least_rows(rows):
    """The rows within which no other one of them lies, in order."""
    return few_least_rows(rows, len(rows))


def few_least_rows(rows, most):
    """As `least_rows`; raises Refused("wide") as soon as there are more than so many."""
    kept = []
    for row in in_order(rows):
        if not any([within(shorter, row) for shorter in kept]):
            kept.append(row)
            if len(kept) > most:
                raise Refused("wide")
    return tuple(kept)


def row_products(lots):
    """All rows that consist of one row of each of the lots, one after another, in order."""
    if product_of([len(lot) for lot in lots]) > MOST_PRODUCTS:
        raise Refused("wide")
    if not all([len(lot) > 0 for lot in lots]):
        return ()
    rows = [()]
    for lot in lots:
        rows = [row + other for row in rows for other in lot]
    return in_order(rows)


def product_of(numbers):
    """The product of some numbers."""
    product = 1
    for number in numbers:
        product *= number
    return product


def check_limits(most, longest):
    """Raise InvalidNumber if a limit of lists, any value, is wrong."""
    if not is_number_to(most, MOST_ROWS) or most == 0:
        raise InvalidNumber("most")
    if not is_number_to(longest, LONGEST_ROW):
        raise InvalidNumber("longest")


def lists(book, view, *, most=60, longest=40):
    """A dict from each useful stage to its list of least endings by the view."""
    check_limits(most, longest)
    return ListSearch(book, view, None, most, longest).found()


def lists_to_depth(book, view, depth, *, most=60, longest=40):
    """As `lists`, for endings that open no more than `depth` calls within one another."""
    if not is_number(depth):
        raise InvalidNumber("depth")
    check_limits(most, longest)
    found = ListSearch(book, view, {}, most, longest).found()
    # With as many open calls as there are courses, all least endings are there.
    for _ in range(min(depth, len(book.names()))):
        before = found
        found = ListSearch(book, view, before, most, longest).found()
        if found == before:
            break
    return found


def lists_by(table, view):
    """The least ones of the rows of each stage of a table by a view."""
    return ascending({stage: least_rows([row_by(view, row) for row in table[stage]]) for stage in table})


def lists_of_moment(table, moment):
    """The lists of the stages of a moment."""
    for stage in moment:
        if stage not in table:
            raise NoEnding(stage)
    return [table[stage] for stage in moment]


def lists_of(table, moment):
    """The least endings of a moment, in order."""
    return row_products(lists_of_moment(table, moment))


def count_of(table, moment):
    """How many least endings a moment has."""
    return product_of([len(rows) for rows in lists_of_moment(table, moment)])
