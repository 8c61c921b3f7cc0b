"""Rows of deeds: which lie within which, and how."""

from stillowed.errors import InvalidRow, Refused
from stillowed.kinds import is_name, row_order

LONGEST_ROW = 400
LONGEST_COMMON = 12


def check_row(row):
    """Raise InvalidRow if any value is no row of at most 400 deeds."""
    if not isinstance(row, tuple):
        raise InvalidRow(-1)
    for at, deed in enumerate(row):
        if at >= LONGEST_ROW or not is_name(deed):
            raise InvalidRow(at)


def in_order(rows):
    """The rows in order, without duplicates."""
    return tuple(sorted({row: True for row in rows}, key=row_order))


def all_lots(names):
    """All lots of some ascending names, in order."""
    found = [()]
    for name in names:
        found.extend([lot + (name,) for lot in found])
    return in_order(found)


def greatest_rows(rows):
    """The rows that lie within no other one, unlike them, in order."""
    kept = []
    for row in reversed(in_order(rows)):
        if not any([within(row, longer) for longer in kept]):
            kept.append(row)
    return tuple(reversed(kept))


def within(u, v):
    """Whether striking deeds of `v` leaves `u`."""
    rest = iter(v)
    for deed in u:
        if not (deed in rest):
            return False
    return True


def fits(u, v):
    """How many fits of `u` in `v` there are."""
    places = {}
    for at, deed in enumerate(u):
        places.setdefault(deed, []).append(at)
    # many[k] is how many fits there are of the first k deeds of u so far.
    many = [1] + [0] * len(u)
    for deed in v:
        for at in reversed(places.get(deed, ())):
            many[at + 1] += many[at]
    return many[len(u)]


def first_fit(u, v):
    """The fit with the smallest indices, None if there is no fit."""
    found = []
    for at, deed in enumerate(v):
        if len(found) < len(u) and deed == u[len(found)]:
            found.append(at)
    return tuple(found) if len(found) == len(u) else None


def last_fit(u, v):
    """The fit with the largest indices, None if there is no fit."""
    turned = first_fit(u[::-1], v[::-1])
    if turned is None:
        return None
    return tuple([len(v) - 1 - at for at in reversed(turned)])


def begun(row, other):
    """How many deeds the longest beginning of a row has that lies within another row."""
    many = 0
    for deed in other:
        if many < len(row) and row[many] == deed:
            many += 1
    return many


def common(u, v):
    """The greatest rows that lie within both, in order."""
    return common_all((u, v))


def common_all(rows):
    """The greatest rows that lie within all of one or more rows, in order."""
    shortest = min(rows, key=len)
    if len(shortest) > LONGEST_COMMON:
        raise Refused("long")
    kept = rows_within(shortest)
    deeds = {deed: True for deed in shortest}
    for row in in_order(rows):
        if row != shortest:
            kept = those_within(kept, places_behind(row, deeds))
    return greatest_of_all(kept)


def rows_within(row):
    """All rows that lie within a row, in order."""
    found = {(): True}
    for deed in row:
        for shorter in list(found):
            found[shorter + (deed,)] = True
    return sorted(found, key=row_order)


def those_within(rows, behind):
    """Those of some ordered rows that lie within a row; each beginning of one of them is one of them.

    The row is told by its `places_behind`.
    """
    reached = {(): 0}
    for one in rows:
        if one and one[:-1] in reached:
            place = behind[reached[one[:-1]]].get(one[-1])
            if place is not None:
                reached[one] = place
    return list(reached)


def places_behind(row, deeds):
    """For each place of a row, a dict from those deeds that stand there or later to the place behind the first one."""
    tables = [{}]
    for at in reversed(range(len(row))):
        table = dict(tables[-1])
        if row[at] in deeds:
            table[row[at]] = at + 1
        tables.append(table)
    return list(reversed(tables))


def greatest_of_all(rows):
    """The rows that lie within no other one, of rows with all that lie within them."""
    inner = {}
    for row in rows:
        for at in range(len(row)):
            inner[row[:at] + row[at + 1:]] = True
    return tuple([row for row in rows if row not in inner])


def cover(u, v):
    """The first of all rows within which both lie."""
    least = cover_lengths(u, v)
    row = []
    at = 0
    other = 0
    while at < len(u) or other < len(v):
        deeds = sorted(u[at:at + 1] + v[other:other + 1])
        steps = [(deed, at + goes_on(u, at, deed), other + goes_on(v, other, deed)) for deed in deeds]
        wanted = least[at][other] - 1
        deed, at, other = [step for step in steps if least[step[1]][step[2]] == wanted][0]
        row.append(deed)
    return tuple(row)


def goes_on(row, at, deed):
    """1 if the row has the deed at this place, otherwise 0."""
    return 1 if at < len(row) and row[at] == deed else 0


def cover_lengths(u, v):
    """A table of the least lengths of rows within which u[i:] and v[j:] lie, at [i][j]."""
    table = [[len(v) - j for j in range(len(v) + 1)]]
    for i in reversed(range(len(u))):
        below = table[-1]
        line = [len(u) - i]
        for j in reversed(range(len(v))):
            if u[i] == v[j]:
                line.append(1 + below[j + 1])
            else:
                line.append(1 + min(below[j], line[-1]))
        table.append(list(reversed(line)))
    return list(reversed(table))
