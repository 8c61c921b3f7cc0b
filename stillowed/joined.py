"""Books joined: one behind the other, either of two, and one in the place of a deed of the other."""

from stillowed.books import Book
from stillowed.errors import Refused
from stillowed.kinds import ascending
from stillowed.owed import OwedTable, ranks_along
from stillowed.rows import within
from stillowed.useful import ranks_from_start

END = ("end",)


def behind(one, other, name):
    """The book that runs two books one behind the other."""
    check_names((name,) + one.names() + other.names())
    check_starts(one, other)
    return Book((behind_course(one, other, name),) + one.courses + other.courses)


def either(one, other, name):
    """The book that runs either of two books."""
    check_names((name,) + one.names() + other.names())
    check_starts(one, other)
    return Book((either_course(one, other, name),) + one.courses + other.courses)


def behind_course(one, other, name):
    """The main course that calls the main courses of two books one behind the other."""
    return (name, 3, (2,), ((0, "call", one.main(), 1), (1, "call", other.main(), 2)))


def either_course(one, other, name):
    """The main course that calls the main course of either of two books."""
    return (name, 2, (1,), ((0, "call", one.main(), 1), (0, "call", other.main(), 1)))


def check_names(names):
    """Raise Refused("names") if two names are equal."""
    if len({name: True for name in names}) < len(names):
        raise Refused("names")


def check_starts(one, other):
    """Raise NoEnding for the first of two books whose start is not useful."""
    for book in (one, other):
        ranks_from_start(book)


def start_row(table):
    """The row owed at the start of a table's book."""
    return table.row((table.book.main(), 0))


def check_alike(one, other, *, but=()):
    """Raise Refused("view") if two tables show a deed of both books differently, except those told."""
    both = [deed for deed in one.book.deeds() if deed in other.book.deeds()]
    if any([one.view[deed] != other.view[deed] for deed in both if deed not in but]):
        raise Refused("view")


def joined_view(one, other, book):
    """The view of a book that shows the deeds of the book of `other` as it does, and others as `one` does."""
    others = {deed: True for deed in other.book.deeds()}
    return {deed: other.view[deed] if deed in others else one.view[deed] for deed in book.deeds()}


def joined_table(book, view, tables, more):
    """The table of a joined book out of tables of its parts and more stages with pairs of a row and a way."""
    rows = {stage: more[stage][0] for stage in more}
    chosen = {stage: more[stage][1] for stage in more}
    for table in tables:
        for stage in table.rows:
            rows[stage] = table.rows[stage]
            chosen[stage] = table.ways[stage]
    return OwedTable(book, view, ascending(rows), ascending(chosen), ranks_along(book, ascending(chosen)))


def behind_table(one, other, name):
    """The table of the book that runs the books of two tables one behind the other."""
    check_names((name,) + one.book.names() + other.book.names())
    check_alike(one, other)
    book = Book((behind_course(one.book, other.book, name),) + one.book.courses + other.book.courses)
    last = start_row(other)
    more = {(name, 0): (start_row(one) + last, ("step", 0)), (name, 1): (last, ("step", 1)), (name, 2): ((), END)}
    return joined_table(book, joined_view(one, other, book), (one, other), more)


def either_table(one, other, name):
    """The table of the book that runs either of the books of two tables, None if it is not clear."""
    check_names((name,) + one.book.names() + other.book.names())
    check_alike(one, other)
    book = Book((either_course(one.book, other.book, name),) + one.book.courses + other.book.courses)
    u = start_row(one)
    v = start_row(other)
    if not within(u, v) and not within(v, u):
        return None
    first = (u, ("step", 0)) if within(u, v) else (v, ("step", 1))
    more = {(name, 0): first, (name, 1): ((), END)}
    return joined_table(book, joined_view(one, other, book), (one, other), more)


def check_done(book, deed):
    """Raise Refused("deed") if no step of a book does a deed."""
    if deed not in book.deeds():
        raise Refused("deed")


def filled_book(one, deed, other):
    """A book with calls of the main course of another one in the place of the steps by a deed."""
    courses = []
    for name, stages, ends, steps in one.courses:
        called = [(step[0], "call", other.main(), step[3]) if step[1:3] == ("do", deed) else step for step in steps]
        courses.append((name, stages, ends, tuple(called)))
    return Book(tuple(courses) + other.courses)


def filled(one, deed, other):
    """A book with the courses of another one in the place of a deed."""
    check_done(one, deed)
    check_names(one.names() + other.names())
    check_starts(one, other)
    return filled_book(one, deed, other)


def filled_table(one, deed, other):
    """The table of the book of a table with the book of another table in the place of a deed."""
    check_done(one.book, deed)
    check_names(one.book.names() + other.book.names())
    if one.view[deed] != start_row(other):
        raise Refused("view")
    check_alike(one, other, but=(deed,))
    book = filled_book(one.book, deed, other.book)
    tables = (one, other) if is_done(one, deed) else (one,)
    return joined_table(book, joined_view(one, other, book), tables, {})


def is_done(table, deed):
    """Whether a step from a met stage to a useful one does a deed."""
    book = table.book
    steps = [((name, step[0]), (name, step[3])) for name in book.names() for step in book.steps(name)
             if step[1:3] == ("do", deed)]
    return any([stage in table.rows and onto in table.rows for stage, onto in steps])
