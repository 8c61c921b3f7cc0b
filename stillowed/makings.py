"""Makings: rows for deeds, and when they can be told apart."""

from stillowed.errors import Refused
from stillowed.kinds import ascending
from stillowed.lists import few_least_rows, row_by
from stillowed.rows import begun, within

LONGEST_ROW = 24
MOST_NEEDS = 40


def made_row(making, row):
    """The rows of the deeds of a row, one after another."""
    return row_by(making, row)


def own_deeds(making):
    """A dict from each deed to the lot of those deeds of its row that no other row has."""
    found = {}
    for deed in making:
        others = {one: True for other in making if other != deed for one in making[other]}
        found[deed] = tuple(sorted({one: True for one in making[deed] if one not in others}))
    return ascending(found)


def is_exact(making):
    """Whether each deed of the making has an own deed."""
    own = own_deeds(making)
    return all([len(own[deed]) > 0 for deed in own])


def couple(making):
    """None for an exact making, otherwise two rows of which only the made ones lie within one another."""
    own = own_deeds(making)
    for deed in own:
        if not own[deed]:
            others = {other: making[other] for other in making if other != deed}
            return ((deed,), first_cover(others, making[deed]))
    return None


def first_cover(making, row):
    """The first row, in order, of deeds of a making such that a row lies within its made row."""
    fewest = [0]
    for place in reversed(range(len(row))):
        ontos = [place + begun(row[place:], making[deed]) for deed in making]
        fewest.append(1 + min([fewest[len(row) - onto] for onto in ontos if onto > place]))
    # fewest[k] is the least number of deeds that cover the last k deeds of the row.
    found = []
    left = len(row)
    while left:
        rests = {deed: left - begun(row[len(row) - left:], making[deed]) for deed in sorted(making)}
        deed = [one for one in rests if fewest[rests[one]] == fewest[left] - 1][0]
        found.append(deed)
        left = rests[deed]
    return tuple(found)


def check_couple(making, u, v):
    """Whether the made row of `u` lies within that of `v`, and `u` not within `v`."""
    return within(made_row(making, u), made_row(making, v)) and not within(u, v)


def needs(making, row):
    """The lot of the least rows of which a row lies within the made row."""
    if len(row) > LONGEST_ROW:
        raise Refused("long")
    # The needs of the last deeds of the row, by their number.
    found = [((),)]
    for place in reversed(range(len(row))):
        rows = []
        for deed in making:
            many = begun(row[place:], making[deed])
            if many > 0:
                rows.extend([(deed,) + rest for rest in found[len(row) - place - many]])
        found.append(few_least_rows(rows, MOST_NEEDS))
    return found[len(row)]


def unmade(making, row):
    """The one row whose made row is this row, None if there is none."""
    if not is_exact(making):
        raise Refused("inexact")
    # The rows made into the last deeds of the row, by their number: exact makings make no row in two ways.
    found = {0: ()}
    for left in range(1, len(row) + 1):
        place = len(row) - left
        for deed in making:
            many = len(making[deed])
            if row[place:place + many] == making[deed] and left - many in found:
                found[left] = (deed,) + found[left - many]
    return found.get(len(row))
