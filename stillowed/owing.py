"""Which rows are owed at moments, and what several tables owe at once."""

from stillowed.debts import Ring, greatest_debt, opened_of
from stillowed.errors import InvalidNumber, Refused
from stillowed.kinds import is_number_to
from stillowed.rows import in_order
from stillowed.words import OwedWords

MOST_ROWS = 2000
MOST_SIZE = 60
MOST_COUNTED = 40
MOST_TOGETHER = 20


def unlike_openings(table, shown):
    """For each met course the triples (opened course, what is shown of the rest, rest), unlike in the first two."""
    opened = opened_of(table)
    found = {}
    for name in opened:
        first = {}
        for course, rest in opened[name]:
            first.setdefault((course, shown[rest]), rest)
        found[name] = [(course, what, first[(course, what)]) for course, what in first]
    return found


def stages_by_course(table):
    """For each met course its met stages, ascending."""
    found = {}
    for stage in sorted(table.rows):
        found.setdefault(stage[0], []).append(stage)
    return found


def rests_to(arrivals, state):
    """The rests, innermost first, along the arrivals (state before, rest) to a state."""
    rests = []
    while arrivals[state]:
        state, rest = arrivals[state]
        rests.append(rest)
    return tuple(rests)


def owes(table, row):
    """Some moment with the fewest stages at which just this row is owed, None if there is none.

    A state is (course, place): what stands in the row from the place on is owed behind the course.
    """
    openings = unlike_openings(table, table.rows)
    stages = stages_by_course(table)
    first = (table.book.main(), len(row))
    arrivals = {first: ()}
    queue = [first]
    at = 0
    while at < len(queue):
        course, place = queue[at]
        for stage in stages[course]:
            if len(table.rows[stage]) == place and table.rows[stage] == row[:place]:
                return (stage,) + rests_to(arrivals, queue[at])
        for inner, owed_row, rest in openings[course]:
            further = (inner, place - len(owed_row))
            if further not in arrivals and further[1] >= 0 and row[further[1]:place] == owed_row:
                arrivals[further] = (queue[at], rest)
                queue.append(further)
        at += 1
    return None


def rows_owed(table, size):
    """All rows of at most `size` deeds that are owed at some moment, in order."""
    if not is_number_to(size, MOST_SIZE):
        raise InvalidNumber("size")
    words = OwedWords(table, size)
    # What is read of rows so far, from their ends; there is at least one row for each.
    layer = {(): words.first}
    found = []
    for left in reversed(range(size + 1)):
        found.extend([row for row in layer if words.is_whole(layer[row])])
        if len(found) > MOST_ROWS or len(layer) > MOST_ROWS:
            raise Refused("wide")
        further = {}
        for row in layer:
            for deed, spots in words.behind(layer[row], left - 1):
                further[(deed,) + row] = spots
        layer = further
    return in_order(found)


def count_rows(table, size):
    """How many rows of 0, of 1, and so on to `size` deeds are owed at some moment."""
    if not is_number_to(size, MOST_COUNTED):
        raise InvalidNumber("size")
    words = OwedWords(table, size)
    layer = {words.first: 1}
    found = []
    for left in reversed(range(size + 1)):
        found.append(sum([layer[spots] for spots in layer if words.is_whole(spots)]))
        further = {}
        for spots in layer:
            for _, after in words.behind(spots, left - 1):
                further[after] = further.get(after, 0) + layer[spots]
        layer = further
    return tuple(found)


def all_rows(table):
    """All rows that are owed at some moment, in order."""
    if isinstance(greatest_debt(table), Ring):
        raise Refused("endless")
    # From the innermost stage outwards: what moments owe whose last stage belongs to a course. There are not more
    # such rows than rows owed at whole moments, as all of them can be followed by the same rests.
    callers = {}
    openings = unlike_openings(table, table.rows)
    for name in openings:
        for course, owed_row, _ in openings[name]:
            callers.setdefault(course, []).append((name, owed_row))
    found = {name: {} for name in openings}
    waiting = [(stage[0], table.rows[stage]) for stage in table.rows]
    while waiting:
        course, row = waiting.pop()
        if row not in found[course]:
            found[course][row] = True
            if len(found[course]) > MOST_ROWS:
                raise Refused("wide")
            waiting.extend([(name, row + owed_row) for name, owed_row in callers.get(course, ())])
    return in_order(found[table.book.main()])


def owe_together(tables, numbers):
    """Some moment with the fewest stages at which each table's debt is at least its number, None if there is none.

    A state is (course, what each table still needs inside of it).
    """
    if not all([is_number_to(number, MOST_TOGETHER) for number in numbers]):
        raise InvalidNumber("numbers")
    debts = {stage: tuple([len(table.rows[stage]) for table in tables]) for stage in tables[0].rows}
    openings = unlike_openings(tables[0], debts)
    stages = stages_by_course(tables[0])
    first = (tables[0].book.main(), tuple(numbers))
    arrivals = {first: ()}
    queue = [first]
    at = 0
    while at < len(queue):
        course, needed = queue[at]
        for stage in stages[course]:
            if max(lessened(needed, debts[stage])) == 0:
                return (stage,) + rests_to(arrivals, queue[at])
        for inner, owed_debts, rest in openings[course]:
            further = (inner, lessened(needed, owed_debts))
            if further not in arrivals:
                arrivals[further] = (queue[at], rest)
                queue.append(further)
        at += 1
    return None


def lessened(numbers, others):
    """What some numbers have more than others, 0 where that is nothing."""
    return tuple([max(0, number - other) for number, other in zip(numbers, others)])
