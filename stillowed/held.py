"""What every ending of a moment holds, by its lists, and greatest rows within some rows."""

from stillowed.errors import Refused
from stillowed.kinds import is_number_to
from stillowed.lists import lists_of_moment, row_products
from stillowed.rows import LONGEST_COMMON, begun, common_all, first_fit, last_fit, within


def shares(table, moment, row):
    """For each stage, how many deeds of what is left of the row all rows of its list hold from its beginning on."""
    found = []
    left = row
    for rows in lists_of_moment(table, moment):
        share = min([begun(left, one) for one in rows])
        found.append(share)
        left = left[share:]
    return tuple(found)


def holds_in_all(table, moment, row):
    """Whether every ending of the moment holds the row."""
    return sum(shares(table, moment, row)) == len(row)


def lacking(table, moment, row):
    """An ending of the moment without the row, None if there is none."""
    parts = shares(table, moment, row)
    if sum(parts) == len(row):
        return None
    ending = []
    left = row
    for stage, share in zip(moment, parts):
        ending.extend([one for one in table[stage] if begun(left, one) == share][0])
        left = left[share:]
    return tuple(ending)


def lacking_all(table, moment, rows):
    """Some least ending of the moment that holds none of some rows, None if there is none."""
    lots = lists_of_moment(table, moment)
    if not all([len(row) > 0 for row in rows]):
        return None
    # For each tuple of how many deeds of the rows are held so far: (the tuple before, the last row taken).
    layers = [{tuple([0] * len(rows)): None}]
    known = {}
    for stage, options in zip(moment, lots):
        if stage not in known:
            known[stage] = unlike_effects(options, rows)
        layers.append(least_states(states_behind(layers[-1], known[stage], rows)))
    if not layers[-1]:
        return None
    ending = []
    state = min(layers[-1])
    for layer in reversed(layers[1:]):
        state, last = layer[state]
        ending.append(last)
    return tuple([deed for last in reversed(ending) for deed in last])


def unlike_effects(options, rows):
    """The pairs (how many deeds are held behind it, for each row and each number held before; row taken)."""
    found = {}
    for option in options:
        effect = tuple([tuple([many + begun(row[many:], option) for many in range(len(row))]) for row in rows])
        found.setdefault(effect, option)
    return [(effect, found[effect]) for effect in found]


def states_behind(states, effects, rows):
    """The states behind one more stage in which no row is held, each with the state before and the row taken."""
    found = {}
    for state in states:
        for effect, option in effects:
            after = tuple([effect[at][many] for at, many in enumerate(state)])
            if all([many < len(rows[at]) for at, many in enumerate(after)]):
                found.setdefault(after, (state, option))
    return found


def least_states(states):
    """Those states of which no other one holds less of some row and no more of any."""
    kept = []
    for state in sorted(states, key=sum):
        if not any([is_at_most(other, state) for other in kept]):
            kept.append(state)
    return {state: states[state] for state in kept}


def is_at_most(one, other):
    """Whether each number of one tuple is at most that of another one."""
    return all([number <= other[at] for at, number in enumerate(one)])


def fewest(table, moment, deed):
    """How often an ending of the moment has the deed at least."""
    return sum([min([row.count(deed) for row in rows]) for rows in lists_of_moment(table, moment)])


def held(rows):
    """The greatest rows that lie within all of some rows, in order."""
    return common_all(rows)


def held_of(table, moment):
    """The greatest rows that every ending of the moment holds, in order."""
    lots = lists_of_moment(table, moment)
    if not all([len(rows[0]) <= LONGEST_COMMON for rows in lots]):
        raise Refused("long")
    known = {}
    for stage, rows in zip(moment, lots):
        if stage not in known:
            known[stage] = held(rows)
    return row_products([known[stage] for stage in moment])


def stops(rows, row):
    """None if the row is no greatest one within all rows, otherwise for each longer one a row that does not hold it."""
    if not all([within(row, one) for one in rows]):
        return None
    gaps = [gaps_of(row, one) for one in rows]
    found = []
    for place, deed in places_and_deeds(rows, row):
        number = first_without(rows, gaps, place, deed)
        if number is None:
            return None
        found.append((place, deed, number))
    return tuple(found)


def places_and_deeds(rows, row):
    """The pairs of each place at which a deed of the rows can be put into the row, and this deed."""
    deeds = sorted({deed: True for one in rows for deed in one})
    return [(place, deed) for place in range(len(row) + 1) for deed in deeds]


def gaps_of(row, one):
    """For each place of a row within another one: where a deed put in before it can stand there, (begin, end)."""
    firsts = first_fit(row, one)
    lasts = last_fit(row, one)
    begins = [0] + [at + 1 for at in firsts]
    ends = list(lasts) + [len(one)]
    return [(begin, ends[place]) for place, begin in enumerate(begins)]


def first_without(rows, gaps, place, deed):
    """The number of the first row that does not hold a row with a deed put in, None if there is none."""
    for number, one in enumerate(rows):
        if not is_in_gap(one, gaps[number][place], deed):
            return number
    return None


def is_in_gap(one, gap, deed):
    """Whether a row has a deed at a place from the gap's begin to before its end."""
    return deed in one[gap[0]:gap[1]]


def check_stops(rows, row, paper):
    """Whether the row lies within all rows and the paper has, for each longer one, a row that does not hold it."""
    if not all([within(row, one) for one in rows]):
        return False
    wanted = places_and_deeds(rows, row)
    if [(place, deed) for place, deed, _ in paper] != wanted:
        return False
    gaps = {}
    for place, deed, number in paper:
        if not is_number_to(number, len(rows) - 1):
            return False
        if number not in gaps:
            gaps[number] = gaps_of(row, rows[number])
        if is_in_gap(rows[number], gaps[number][place], deed):
            return False
    return True
