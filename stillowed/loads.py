"""Loads: what a resting desk can be made to owe by deeds that it does not see."""

from heapq import heappop, heappush

from stillowed.debts import debt, rests_behind
from stillowed.errors import InvalidNumber, Refused
from stillowed.kinds import ascending, is_number, is_number_to
from stillowed.steps import all_in, steps_out

MOST_WANTED = 400
MOST_GAIN = 200


def hidden(table):
    """The lot of all hidden deeds of the book."""
    return tuple([deed for deed in table.book.deeds() if table.view[deed] == ()])


def loading_steps(table):
    """The lot of the pairs (course, k) of the free steps behind which more is owed than before."""
    movers = {deed: True for deed in hidden(table)}
    found = []
    for stage in table.rows:
        for k, parts in free_steps(table, movers, stage):
            if debt(table, parts) > debt(table, (stage,)):
                found.append((stage[0], k))
    return tuple(sorted(found))


def free_steps(table, movers, stage):
    """The pairs (k, parts) of the steps from a met stage to useful stages that call or do a mover."""
    steps = table.book.steps(stage[0])
    found = []
    for k, parts in steps_out(table.book, stage):
        if all_in(parts, table.rows) and (steps[k][1] == "call" or steps[k][2] in movers):
            found.append((k, parts))
    return found


def check_movers(table, movers):
    """The movers as a dict; raises Refused("shown") if one of them is no hidden deed of the book."""
    known = {deed: True for deed in hidden(table)}
    if not all_in(movers, known):
        raise Refused("shown")
    return {deed: True for deed in movers}


def left_free(table, movers):
    """The lot of the met stages whose course can be ended and left by free moves alone."""
    return tuple(sorted(left_stages(table, check_movers(table, movers))))


def left_stages(table, movers):
    """A dict whose keys are the stages that `left_free` tells."""
    found = {stage: True for stage in table.rows if table.book.is_end(stage)}
    grown = True
    while grown:
        grown = False
        for stage in table.rows:
            if stage not in found:
                if any([all_in(parts, found) for _, parts in free_steps(table, movers, stage)]):
                    found[stage] = True
                    grown = True
    return found


def pile_steps(table, movers):
    """For each met stage the triples (stage, rests put under it, debt of these) to which its piles go on."""
    left = left_stages(table, movers)
    found = {}
    for stage in table.rows:
        onward = []
        for _, parts in free_steps(table, movers, stage):
            if len(parts) == 1:
                onward.append((parts[0], (), 0))
                continue
            onward.append((parts[0], parts[1:], debt(table, parts[1:])))
            if parts[0] in left:
                onward.append((parts[1], (), 0))
        found[stage] = onward
    return found


def loads(table, movers):
    """A dict from each met stage to the greatest debt of its piles, None if there is none."""
    return greatest_loads(table, pile_steps(table, check_movers(table, movers)))


def greatest_loads(table, onward):
    """What `loads` returns, by the steps of piles."""
    heights = {stage: debt(table, (stage,)) for stage in table.rows}
    # As in a search for longest ways: what still grows behind as many rounds as there are stages grows for ever.
    for _ in onward:
        grown = [stage for stage in onward if raise_load(onward, heights, stage)]
        if not grown:
            return ascending(heights)
    # Whatever leads to a ring that grows has no greatest debt; in one round more each such ring grows somewhere.
    endless = {stage: True for stage in onward if raise_load(onward, heights, stage)}
    for _ in onward:
        for stage in onward:
            if any([triple[0] in endless for triple in onward[stage]]):
                endless[stage] = True
    return ascending({stage: None if stage in endless else heights[stage] for stage in heights})


def raise_load(onward, heights, stage):
    """Raise the height of a stage to what its steps ask for, and return whether that changed it."""
    wanted = max([0] + [heights[part] + added for part, _, added in onward[stage]])
    if wanted <= heights[stage]:
        return False
    heights[stage] = wanted
    return True


def check_loads(table, movers, heights):
    """Whether any value is a dict of bounds of the debts of all piles, where None is above all numbers."""
    onward = pile_steps(table, check_movers(table, movers))
    if not isinstance(heights, dict) or len(heights) != len(onward) or not all_in(onward, heights):
        return False
    if not all([heights[stage] is None or is_number(heights[stage]) for stage in onward]):
        return False
    for stage in onward:
        if heights[stage] is not None and not is_load(table, onward, heights, stage):
            return False
    return True


def is_load(table, onward, heights, stage):
    """Whether the number of a stage is at least its debt and what its steps ask for."""
    if heights[stage] < debt(table, (stage,)):
        return False
    for part, _, added in onward[stage]:
        if heights[part] is None or heights[stage] < heights[part] + added:
            return False
    return True


def peak(table, movers, stage, wanted):
    """Some pile of a met stage with the fewest stages that has at least so great a debt, None if there is none."""
    known = check_movers(table, movers)
    if not is_number_to(wanted, MOST_WANTED):
        raise InvalidNumber("wanted")
    return lowest_pile(table, pile_steps(table, known), stage, wanted)


def lowest_pile(table, onward, stage, wanted):
    """What `peak` returns, by the steps of piles and for any number wanted.

    A state is (innermost stage, debt below it); greater debts than are wanted below count as those.
    """
    found = {}
    queue = [(0, (stage, 0), ())]
    while queue:
        many, state, arrival = heappop(queue)
        if state in found:
            continue
        found[state] = arrival
        here, below = state
        if below + debt(table, (here,)) >= wanted:
            return (here,) + rests_behind(found, state)
        for part, rests, added in onward[here]:
            after = (part, min(wanted, below + added))
            if after not in found:
                heappush(queue, (many + len(rests), after, (state, rests)))
    return None


def places_left(table, movers, moment):
    """The places of the stages of a moment that are innermost once those before them have been left freely."""
    left = left_stages(table, movers)
    found = []
    for at, stage in enumerate(moment):
        found.append(at)
        if stage not in left:
            break
    return found


def load_at(table, movers, moment):
    """By how many deeds the debt of a moment can be exceeded by free moves, None if there is no greatest number."""
    known = check_movers(table, movers)
    heights = greatest_loads(table, pile_steps(table, known))
    gains = [0]
    for at in places_left(table, known, moment):
        if heights[moment[at]] is None:
            return None
        gains.append(heights[moment[at]] - debt(table, moment[:at + 1]))
    return max(gains)


def loaded(table, movers, moment, gain):
    """Some moment to which free moves lead and whose debt is greater by at least `gain`, None if there is none."""
    known = check_movers(table, movers)
    if not is_number_to(gain, MOST_GAIN):
        raise InvalidNumber("gain")
    if gain == 0:
        return moment
    onward = pile_steps(table, known)
    for at in places_left(table, known, moment):
        pile = lowest_pile(table, onward, moment[at], gain + debt(table, moment[:at + 1]))
        if pile is not None:
            return pile + moment[at + 1:]
    return None
