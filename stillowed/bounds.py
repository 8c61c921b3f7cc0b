"""How long the least endings of a book can be."""

from stillowed.books import MOST_COURSES, MOST_STAGES, MOST_STAGES_TOGETHER, Book
from stillowed.errors import Refused

NAMES = ("a", "b", "c", "d", "e", "f", "g", "h")


def length_bound(book):
    """The product of (number of stages - 1) over the courses with at least two stages."""
    product = 1
    for course in book.courses:
        if course[1] > 1:
            product *= course[1] - 1
    return product


def tallest(counts):
    """The book with so many stages in its courses whose least ending is as long as `length_bound` tells."""
    if not 1 <= len(counts) <= MOST_COURSES or sum(counts) > MOST_STAGES_TOGETHER:
        raise Refused("counts")
    if not all([2 <= count <= MOST_STAGES for count in counts]):
        raise Refused("counts")
    return Book(tuple([line(at, counts) for at in range(len(counts))]))


def line(at, counts):
    """The course of this number, in which each stage but the last one has one step, to the next stage."""
    last = counts[at] - 1
    if at == len(counts) - 1:
        steps = [(number, "do", "x", number + 1) for number in range(last)]
    else:
        steps = [(number, "call", NAMES[at + 1], number + 1) for number in range(last)]
    return (NAMES[at], counts[at], (last,), tuple(steps))
