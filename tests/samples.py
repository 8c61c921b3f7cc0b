"""Books that several tests use."""

from stillowed.books import Book


def do(number, deed, onto):
    return (number, "do", deed, onto)


def call(number, name, onto):
    return (number, "call", name, onto)


def course(name, stages, ends, *steps):
    return (name, stages, ends, steps)


def one_course(stages, ends, *steps):
    return Book((("main", stages, ends, steps),))


# order: take (pay) send / pay: card | card stamp
ORDER = Book((
    course("order", 4, (3,), do(0, "take", 1), call(1, "pay", 2), do(2, "send", 3)),
    course("pay", 4, (1, 3), do(0, "card", 1), do(0, "card", 2), do(2, "stamp", 3)),
))

# main: a (main) b | c
NEST = Book((course("main", 5, (3, 4), do(0, "a", 1), do(0, "c", 4), call(1, "main", 2), do(2, "b", 3)),))

# main: (main) a
DEAD = Book((course("main", 3, (2,), call(0, "main", 1), do(1, "a", 2)),))

# main: card | cash stamp
TORN = Book((course("main", 4, (1, 3), do(0, "card", 1), do(0, "cash", 2), do(2, "stamp", 3)),))

NAMES = "abcdefgh"


def tall(counts):
    """As `tallest` of the document: each course calls the next one, the last one does x."""
    made = []
    for at, many in enumerate(counts):
        if at == len(counts) - 1:
            steps = tuple(do(n, "x", n + 1) for n in range(many - 1))
        else:
            steps = tuple(call(n, NAMES[at + 1], n + 1) for n in range(many - 1))
        made.append((NAMES[at], many, (many - 1,), steps))
    return Book(tuple(made))


def full_book(rng, call_odds=0.5, end_odds=0.2):
    """A book at the limits: 8 courses, 60 stages, 120 steps, 12 deeds."""
    sizes = (8, 8, 8, 8, 7, 7, 7, 7)
    words = "ijklmnopqrst"
    made = []
    for name, many in zip(NAMES, sizes):
        steps = [do(0, words[len(made)], many - 1)]
        while len(steps) < 15:
            if rng.random() < call_odds:
                step = call(rng.randrange(many), rng.choice(NAMES), rng.randrange(many))
            else:
                step = do(rng.randrange(many), rng.choice(words), rng.randrange(many))
            if step not in steps:
                steps.append(step)
        ends = tuple(n for n in range(many) if rng.random() < end_odds or n == many - 1)
        made.append((name, many, ends, tuple(steps)))
    return Book(tuple(made))


def chain_of_rank(rank):
    """A book whose main course has the given rank, of at least 2: its runs need so many moves.

    Course by course, the rank r of the first stage is 1 + deeds + calls * (1 + rank of the next course).
    """
    made = []
    left = rank
    at = 0
    while True:
        name = NAMES[at]
        if left <= 20:
            made.append((name, left, (left - 1,), tuple(do(n, "x", n + 1) for n in range(left - 1))))
            return Book(tuple(made))
        # Five calls of the next course, and as many deeds as are left over.
        inner = (left - 1) // 5 - 1
        deeds = left - 1 - 5 * (1 + inner)
        steps = [call(n, NAMES[at + 1], n + 1) for n in range(5)] + [do(5 + n, "x", 6 + n) for n in range(deeds)]
        made.append((name, 6 + deeds, (5 + deeds,), tuple(steps)))
        left = inner
        at += 1
