"""Walks within a course, whose calls are passed in the shortest way, and finishes."""

from heapq import heappop, heappush

from stillowed.steps import all_in, parts_of, steps_out


def rank_ways(book, useful):
    """For each useful stage the first way by which its course is left after the fewest moves."""
    return {stage: rank_way(book, useful, stage) for stage in useful}


def rank_way(book, useful, stage):
    """The first way of a useful stage with its rank."""
    if book.is_end(stage):
        return ("end",)
    for k, parts in steps_out(book, stage):
        if all_in(parts, useful) and 1 + sum([useful[part] for part in parts]) == useful[stage]:
            return ("step", k)
    return None


def finish_moves(book, chosen, stage):
    """The moves along some ways until the course of the stage has been left."""
    moves_made = []
    opened = [stage]
    while opened:
        stage = opened.pop()
        way = chosen[stage]
        if way == ("end",):
            moves_made.append(("leave",))
        else:
            step = book.steps(stage[0])[way[1]]
            moves_made.append((step[1], way[1]))
            opened.extend(parts_of(stage[0], step)[::-1])
    return moves_made


def walks_of(book, useful, course):
    """For each number of the course that useful steps reach: (fewest moves from stage 0, last step or None)."""
    found = {}
    queue = [(0, 0, -1)]
    while queue:
        cost, number, last = heappop(queue)
        if number in found:
            continue
        found[number] = (cost, last)
        for k, parts in steps_out(book, (course, number)):
            onto = parts[-1]
            if all_in(parts, useful) and onto[1] not in found:
                passed = useful[parts[0]] if len(parts) == 2 else 0
                heappush(queue, (cost + 1 + passed, onto[1], k))
    return found


def walk_steps(book, walks, course, number):
    """The numbers of the steps of the walk that `walks_of` found to a number."""
    found = []
    while walks[number][1] >= 0:
        k = walks[number][1]
        found.append(k)
        number = book.steps(course)[k][0]
    return list(reversed(found))


def walk_moves(book, chosen, course, numbers):
    """The moves of the steps with these numbers, calls being passed along the ways."""
    moves_made = []
    for k in numbers:
        step = book.steps(course)[k]
        moves_made.append((step[1], k))
        if step[1] == "call":
            moves_made.extend(finish_moves(book, chosen, (step[2], 0)))
    return moves_made
