"""Courses whose lines are the rows of deeds and calls along the steps of a book."""

from stillowed.errors import NoEnding, Refused
from stillowed.expressions import marks_in, normal

MOST_STAGES = 5
NOTHING = ("nothing",)
# The two ends of the graph of a course, which are no stages of it.
START = -1
GOAL = -2


def courses_of(book):
    """Some courses, in normal form, with the lines that the courses of the book have."""
    if not all([course[1] <= MOST_STAGES for course in book.courses]):
        raise Refused("wide")
    for name in book.names():
        if not ends_reached(book, name):
            raise NoEnding((name, 0))
    return tuple([(name, expression_of(book, name)) for name in book.names()])


def ends_reached(book, name):
    """The ends of a course that its steps reach from stage 0, whatever calls lead to."""
    found = numbers_from([0], [(step[0], step[3]) for step in book.steps(name)])
    return [number for number in book.ends(name) if number in found]


def numbers_from(firsts, pairs):
    """A dict whose keys are the numbers to which pairs (from, to) lead from the first ones on."""
    found = {number: True for number in firsts}
    waiting = list(firsts)
    while waiting:
        number = waiting.pop()
        for before, after in pairs:
            if before == number and after not in found:
                found[after] = True
                waiting.append(after)
    return found


def expression_of(book, name):
    """An expression for a course: its stages are taken out of its graph one after another."""
    edges = edges_of(book, name)
    left = sorted({number: True for pair in edges for number in pair if number >= 0})
    while left:
        number = cheapest(edges, left)
        left.remove(number)
        edges = without(edges, number)
    return normal(edges[(START, GOAL)])


def edges_of(book, name):
    """The expressions along the steps between stages on ways to an end, by pairs of numbers."""
    pairs = [(step[0], step[3]) for step in book.steps(name)]
    ends = ends_reached(book, name)
    good = numbers_from([0], pairs)
    back = numbers_from(ends, [(after, before) for before, after in pairs])
    edges = {(START, 0): NOTHING}
    for number in ends:
        edges[(number, GOAL)] = NOTHING
    for number, kind, word, onto in book.steps(name):
        if number in good and onto in back:
            put_edge(edges, (number, onto), ("deed" if kind == "do" else "call", word))
    return edges


def put_edge(edges, pair, expression):
    """Add an expression to those from one number to another one."""
    edges[pair] = either_of(edges[pair], expression) if pair in edges else expression


def cheapest(edges, left):
    """The number that can be taken out with the least that is written twice."""
    sizes = {pair: marks_in(edges[pair]) for pair in edges}
    costs = [(cost_of(sizes, number), number) for number in left]
    return min(costs)[1]


def cost_of(sizes, number):
    """How much is written more if a number is taken out."""
    into = [sizes[pair] for pair in sizes if pair[1] == number and pair[0] != number]
    out = [sizes[pair] for pair in sizes if pair[0] == number and pair[1] != number]
    around = sizes.get((number, number), 0)
    return sum(into) * (len(out) - 1) + sum(out) * (len(into) - 1) + around * (len(into) * len(out) - 1)


def without(edges, number):
    """The edges of the same lines without a number."""
    found = {pair: edges[pair] for pair in edges if number not in pair}
    around = edges.get((number, number))
    for before, after in edges:
        if after == number and before != number:
            for other, onto in edges:
                if other == number and onto != number:
                    middle = [] if around is None else [("again", around)]
                    parts = [edges[(before, number)]] + middle + [edges[(number, onto)]]
                    put_edge(found, (before, onto), seq_of(parts))
    return found


def seq_of(parts):
    """A seq of some expressions, which need not be two."""
    kept = [part for part in parts if part != NOTHING]
    if len(kept) > 1:
        return ("seq", tuple(kept))
    return kept[0] if kept else NOTHING


def either_of(one, other):
    """An either of two expressions; a maybe is kept outside, so that such brackets do not gather."""
    if one == other:
        return one
    parts = [insides(part) for part in (one, other) if part != NOTHING]
    whole = parts[0] if len(parts) == 1 or parts[0] == parts[1] else ("either", tuple(parts))
    return ("maybe", whole) if has_empty(one) or has_empty(other) else whole


def has_empty(expression):
    """Whether an expression is plainly made to have the empty line."""
    return expression == NOTHING or expression[0] == "maybe"


def insides(expression):
    """What a maybe is made of, other expressions as they are."""
    return expression[1] if expression[0] == "maybe" else expression
