"""Trails: short certificates that stages are met."""

from stillowed.errors import NoEnding, Refused
from stillowed.met import met_arrivals
from stillowed.useful import ranks


def trail_to(book, stage):
    """Some trail to a moment in which the stage is innermost."""
    useful = ranks(book)
    if stage not in useful:
        raise NoEnding(stage)
    arrivals = met_arrivals(book, useful)
    if stage not in arrivals:
        raise Refused("unmet")
    return trail_along(arrivals, stage)


def trail_along(arrivals, stage):
    """The trail to a met stage along the shortest arrivals."""
    steps = []
    arrival = arrivals[stage][1]
    while arrival:
        before, k, entered = arrival
        steps.append((k, entered))
        arrival = arrivals[before][1]
    frames = [[]]
    for k, entered in reversed(steps):
        frames[-1].append(k)
        if entered:
            frames.append([])
    return tuple([tuple(frame) for frame in frames])
