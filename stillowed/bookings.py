"""Bookings: all ways in which the deeds of a run can pay the debts."""

from stillowed.kinds import is_lot, is_number_to
from stillowed.ledger import shown_row
from stillowed.moments import run_moments
from stillowed.rows import first_fit


def first_booking(table, run):
    """The booking that the ledger makes of any value that is a run."""
    return tuple([first_fit(before, after) for before, _, after in lines_of(table, run)])


def lines_of(table, run):
    """For each move of any value that is a run: (row owed before it, its shown row, this and the row owed after it)."""
    moments = run_moments(table.book, run)
    owed_rows = [table.owed(moment) for moment in moments]
    shown_rows = [shown_row(table.book, table.view, moments[at], move) for at, move in enumerate(run)]
    return [(owed_rows[at], shown, shown + owed_rows[at + 1]) for at, shown in enumerate(shown_rows)]


def check_booking(table, run, booking):
    """Whether any value is a booking of any value that is a run."""
    lines = lines_of(table, run)
    if not isinstance(booking, tuple) or len(booking) != len(lines):
        return False
    return all([is_fit(booking[at], before, after) for at, (before, _, after) in enumerate(lines)])


def is_fit(value, u, v):
    """Whether any value is a fit of `u` in `v`."""
    if not isinstance(value, tuple) or len(value) != len(u):
        return False
    if not all([is_number_to(place, len(v) - 1) for place in value]) or not is_lot(value):
        return False
    return all([v[place] == deed for place, deed in zip(value, u)])


def payments(table, run, booking, since):
    """For each debt owed after so many moves, the number of the move that pays it in a booking, None if none does."""
    lines = lines_of(table, run)
    many = len(lines[since][0]) if since < len(lines) else len(table.owed(run_moments(table.book, run)[-1]))
    paid = [None] * many
    # The debts that are still owed: (place among those asked for, place in the row owed now).
    left = [(at, at) for at in range(many)]
    for number in range(since, len(lines)):
        shown = len(lines[number][1])
        booked_places = [(at, booking[number][place]) for at, place in left]
        for at, place in booked_places:
            if place < shown:
                paid[at] = number + 1
        left = [(at, place - shown) for at, place in booked_places if place >= shown]
    return tuple(paid)


def many_bookings(table, run):
    """How many bookings any value has that is a run."""
    found = {}
    product = 1
    for before, _, after in lines_of(table, run):
        if (before, after) not in found:
            found[(before, after)] = many_fits(before, after)
        product *= found[(before, after)]
    return product


def many_fits(u, v):
    """How many fits of `u` in `v` there are; it is quick where `v` has few deeds more, as most moves do."""
    spare = len(v) - len(u)
    # many[k] is how many fits of the deeds of u so far there are in as many deeds of v and k more.
    many = [1] * (spare + 1)
    for at, deed in enumerate(u):
        line = []
        before = 0
        for k in range(spare + 1):
            if v[at + k] == deed:
                before += many[k]
            line.append(before)
        many = line
    return many[spare]
