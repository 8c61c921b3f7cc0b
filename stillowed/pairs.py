"""Pairs of lists and of books: what one has within another, and what both share."""

from stillowed.books import Book
from stillowed.errors import Refused
from stillowed.kinds import ascending
from stillowed.rows import within
from stillowed.steps import all_in, parts_of
from stillowed.useful import ranks


def holders(one, other):
    """For each row of `one`, up to the first that has none, the number of the first row of `other` within it."""
    found = []
    for row in one:
        numbers = [number for number, shorter in enumerate(other) if within(shorter, row)]
        if not numbers:
            break
        found.append(numbers[0])
    return tuple(found)


def holds(one, other):
    """Whether each row of `one` has a row of `other` within it."""
    return len(holders(one, other)) == len(one)


def swapped(book, course):
    """The book with a course in the place of its course of that name."""
    place = book.index_of(course[0]) if isinstance(course, tuple) and course else None
    if place is None:
        raise Refused("name")
    return Book(book.courses[:place] + (course,) + book.courses[place + 1:])


def check_match(one, other):
    """Raise Refused("stages") unless two books have the same courses with equal numbers of stages."""
    if [course[:2] for course in one.courses] != [course[:2] for course in other.courses]:
        raise Refused("stages")


def meet(one, other):
    """The book with the steps and ends that two matching books share."""
    check_match(one, other)
    courses = []
    for name, stages, ends, steps in one.courses:
        others = {step: True for step in other.steps(name)}
        kept_ends = tuple([number for number in ends if other.is_end((name, number))])
        courses.append((name, stages, kept_ends, tuple([step for step in steps if step in others])))
    return Book(tuple(courses))


def reached(one, other):
    """A dict from the courses that shared moves reach to the lots of the numbers that they reach there."""
    return Shared(one, other).lots


def is_shared(one, other, moment):
    """Whether any value is a moment that moves by shared steps and ends lead to."""
    return Shared(one, other).has(moment)


class Shared:
    """What shared steps of two matching books reach: lots of numbers, and entrances."""

    def __init__(self, one, other):
        self.book = meet(one, other)
        self.useful = ranks(self.book)
        others = ranks(other)
        self.both = {stage: True for stage in ranks(one) if stage in others}
        self.found = {}
        # The keys are the triples (calling course, called course, next number).
        self.entered = {}
        self.search()
        self.lots = self.lots_of()

    def search(self):
        """Follow all shared steps between stages that are useful in both books."""
        first = (self.book.main(), 0)
        waiting = [first] if first in self.both else []
        while waiting:
            stage = waiting.pop()
            if stage in self.found:
                continue
            self.found[stage] = True
            for k in self.book.steps_from(stage):
                step = self.book.steps(stage[0])[k]
                parts = parts_of(stage[0], step)
                if all_in(parts, self.both):
                    waiting.append(parts[0])
                    if len(parts) == 2:
                        self.entered[(stage[0], step[2], step[3])] = True
                        waiting.extend([parts[1]] if parts[0] in self.useful else [])

    def lots_of(self):
        """The lots of numbers by courses."""
        found = {}
        for course, number in sorted(self.found):
            found.setdefault(course, []).append(number)
        return ascending({course: tuple(found[course]) for course in found})

    def entrances(self):
        """The triples (course, called course, next stage) of the entrances, ascending."""
        return [(course, called, (course, number)) for course, called, number in sorted(self.entered)]

    def has(self, moment):
        """Whether any value is a shared moment."""
        if not isinstance(moment, tuple) or not all([self.book.is_stage(stage) for stage in moment]):
            return False
        if not moment:
            return (self.book.main(), 0) in self.useful
        if moment[0] not in self.found or moment[-1][0] != self.book.main():
            return False
        return all([(moment[at][0], moment[at - 1][0], moment[at][1]) in self.entered for at in range(1, len(moment))])
