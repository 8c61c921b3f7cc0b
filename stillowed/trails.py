"""Trails: short certificates that stages are met."""

from stillowed.met import arrivals_for
from stillowed.useful import ranks


def trail_to(book, stage):
    """Some trail to a moment in which the stage is innermost."""
    return trail_along(arrivals_for(book, ranks(book), stage), stage)


def trail_along(arrivals, stage):
    """The trail to a met stage along the shortest arrivals."""
    steps = []
    arrival = arrivals[stage][1]
    while arrival:
        before, k, entered = arrival
        steps.append((k, entered))
        arrival = arrivals[before][1]
    frames = [[]]
    for k, entered in reversed(steps):
        frames[-1].append(k)
        if entered:
            frames.append([])
    return tuple([tuple(frame) for frame in frames])
