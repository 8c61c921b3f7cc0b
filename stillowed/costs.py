"""Least costs of stages, and the ways that have them.

A cost is a pair of integers, so that one search serves ranks, lengths and prices.
"""

from heapq import heappop, heappush

from stillowed.kinds import ascending
from stillowed.steps import all_in, is_rest_closed, parts_of, steps_into, steps_out

FREE = (0, 0)
ONE_STEP = (0, 1)


def settled(book, end, deed_costs, call):
    """The least cost of each useful stage: of an end, a step by a deed and a call, as told, with all parts."""
    into = steps_into(book)
    done = {}
    queue = []
    for stage in book.stages():
        if book.is_end(stage):
            heappush(queue, (end, stage))
    while queue:
        cost, stage = heappop(queue)
        if stage in done:
            continue
        done[stage] = cost
        for user, step, parts in into[stage]:
            if user not in done and all_in(parts, done):
                base = call if step[1] == "call" else deed_costs[step[2]]
                heappush(queue, (with_parts(base, parts, done), user))
    return done


def with_parts(base, parts, costs):
    """A cost plus the costs of the parts, place by place."""
    first, second = base
    for part in parts:
        first += costs[part][0]
        second += costs[part][1]
    return (first, second)


def way_costs(book, weights):
    """The least cost (weight of deeds, steps) of each useful stage, ascending; weights is a dict by deeds."""
    deed_costs = {deed: (weights[deed], 1) for deed in book.deeds()}
    return ascending(settled(book, FREE, deed_costs, ONE_STEP))


def least_weights(book, weights):
    """The least weight of the endings of each useful stage."""
    costs = way_costs(book, weights)
    return {stage: costs[stage][0] for stage in costs}


def least_ways(book, weights):
    """The first way with the least cost of each useful stage."""
    costs = way_costs(book, weights)
    return {stage: first_way(book, weights, costs, stage) for stage in costs}


def first_way(book, weights, costs, stage):
    """The first way of a useful stage that has the cost which `costs` tells for it."""
    if book.is_end(stage):
        return ("end",)
    steps = book.steps(stage[0])
    for k, parts in steps_out(book, stage):
        if all_in(parts, costs) and with_parts(base_cost(steps[k], weights), parts, costs) == costs[stage]:
            return ("step", k)
    return None


def base_cost(step, weights):
    """The cost of a step without its parts."""
    return ONE_STEP if step[1] == "call" else (weights[step[2]], 1)


def step_of_way(book, stage, way):
    """The step of a way ("step", k) of a stage, for any integer k, None if this step does not leave it."""
    steps = book.steps(stage[0])
    if not 0 <= way[1] < len(steps) or steps[way[1]][0] != stage[1]:
        return None
    return steps[way[1]]


def parts_of_way(book, stage, way):
    """The parts of a way, None if it is no way of the stage."""
    if way == ("end",):
        return () if book.is_end(stage) else None
    step = step_of_way(book, stage, way)
    return None if step is None else parts_of(stage[0], step)


def sound_order(book, chosen):
    """The keys of a dict of ways, each behind the parts of its way, None if the dict is not sound."""
    parts = {stage: parts_of_way(book, stage, chosen[stage]) for stage in sorted(chosen)}
    if any([parts[stage] is None for stage in parts]):
        return None
    placed = {}
    left = list(parts)
    while left:
        ready = [stage for stage in left if all_in(parts[stage], placed)]
        if not ready:
            return None
        for stage in ready:
            placed[stage] = True
        left = [stage for stage in left if stage not in placed]
    return list(placed)


def weight_along(book, weights, table, stage, way):
    """The weight of a way whose parts are keys, by the table's numbers for them."""
    if way == ("end",):
        return 0
    step = book.steps(stage[0])[way[1]]
    total = 0 if step[1] == "call" else weights[step[2]]
    return total + sum([table[part] for part in parts_of(stage[0], step)])


def check_weights(book, weights, table, chosen):
    """Whether a table of least weights and a sound dict of ways prove each other ([18], [49])."""
    if sorted(table) != sorted(chosen) or not is_rest_closed(book, table):
        return False
    if sound_order(book, chosen) is None:
        return False
    return all([has_least_weight(book, weights, table, stage, chosen[stage]) for stage in table])


def has_least_weight(book, weights, table, stage, way):
    """Whether the table's number for a stage is that of its way, and no way is lighter."""
    if table[stage] != weight_along(book, weights, table, stage, way):
        return False
    if book.is_end(stage) and table[stage] > 0:
        return False
    for k, parts in steps_out(book, stage):
        if all_in(parts, table) and table[stage] > weight_along(book, weights, table, stage, ("step", k)):
            return False
    return True
