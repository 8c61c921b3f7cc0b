"""Slow answers that follow the document's words, for small books, and books to try them on.

Nothing here uses the package but `Book`; so what both say is said twice.
"""

import itertools
import random

from stillowed.books import Book


def random_book(rng, courses=3, stages=4, steps=5, deeds=3, end_odds=0.4, call_odds=0.4):
    """A book with up to so many courses, stages and steps in each, and deeds."""
    names = rng.sample(["main", "a", "zz", "pay", "m", "kit"], rng.randint(1, courses))
    words = ["a", "b", "c", "d", "e", "f", "g", "h", "i", "j", "k", "l"][:deeds]
    made = []
    for name in names:
        many = rng.randint(1, stages)
        ends = tuple(n for n in range(many) if rng.random() < end_odds)
        found = []
        for _ in range(rng.randint(0, steps)):
            if rng.random() < call_odds:
                step = (rng.randrange(many), "call", rng.choice(names), rng.randrange(many))
            else:
                step = (rng.randrange(many), "do", rng.choice(words), rng.randrange(many))
            if step not in found:
                found.append(step)
        made.append((name, many, ends, tuple(found)))
    return Book(tuple(made))


def random_books(seed, many, **told):
    rng = random.Random(seed)
    return [random_book(rng, **told) for _ in range(many)]


def random_view(rng, book, longest=2):
    words = ["a", "b", "x"]
    return {deed: tuple(rng.choice(words) for _ in range(rng.randint(0, longest))) for deed in book.deeds()}


def table_of(book):
    """The courses as a dict: name -> (stages, ends, steps)."""
    return {name: (many, ends, steps) for name, many, ends, steps in book.courses}


def all_stages(book):
    return sorted((name, n) for name, many, _, _ in book.courses for n in range(many))


def is_end(book, stage):
    return stage[1] in table_of(book)[stage[0]][1]


def parts(book, stage, k):
    number, kind, name, onto = table_of(book)[stage[0]][2][k]
    assert number == stage[1]
    if kind == "do":
        return ((stage[0], onto),)
    return ((name, 0), (stage[0], onto))


def leaving(book, stage):
    return [k for k, step in enumerate(table_of(book)[stage[0]][2]) if step[0] == stage[1]]


def raw_moves(book, moment):
    """The moves of a moment, let or not."""
    if not moment:
        return []
    found = [("leave",)] if is_end(book, moment[0]) else []
    steps = table_of(book)[moment[0][0]][2]
    return found + [(steps[k][1], k) for k in leaving(book, moment[0])]


def behind(book, moment, move):
    if move == ("leave",):
        return moment[1:]
    return parts(book, moment[0], move[1]) + moment[1:]


def deed_of(book, moment, move):
    if move[0] != "do":
        return ()
    return (table_of(book)[moment[0][0]][2][move[1]][2],)


def useful(book):
    """The useful stages, by growing."""
    found = set()
    while True:
        new = [s for s in all_stages(book) if s not in found and (
            is_end(book, s) or any(all(p in found for p in parts(book, s, k)) for k in leaving(book, s)))]
        if not new:
            return found
        found.update(new)


def let(book, good, moment):
    return [m for m in raw_moves(book, moment) if all(s in good for s in behind(book, moment, m))]


def runs(book, first, most, only_useful=False):
    """All (run, moment, deeds) from a moment with at most so many moves, shorter runs first."""
    good = useful(book) if only_useful else set(all_stages(book))
    level = [((), first, ())]
    found = list(level)
    for _ in range(most):
        level = [(run + (m,), behind(book, at, m), deeds + deed_of(book, at, m))
                 for run, at, deeds in level for m in let(book, good, at)]
        found.extend(level)
        if len(found) > 60000:
            return None
    return found


def finishes(book, stage, most):
    found = runs(book, (stage,), most)
    return None if found is None else [(run, deeds) for run, at, deeds in found if at == ()]


def endings(book, size, view=None):
    """A dict from each stage to the set of its endings (by a view) of at most so many deeds."""
    found = {s: set() for s in all_stages(book)}
    grown = True
    while grown:
        grown = False
        for s in found:
            new = {()} if is_end(book, s) else set()
            for k in leaving(book, s):
                step = table_of(book)[s[0]][2][k]
                onto = parts(book, s, k)
                if step[1] == "do":
                    row = (step[2],) if view is None else view[step[2]]
                    new |= {row + r for r in found[onto[0]]}
                else:
                    new |= {x + y for x in found[onto[0]] for y in found[onto[1]]}
            new = {r for r in new if len(r) <= size}
            if not new <= found[s]:
                found[s] |= new
                grown = True
    return found


def in_order(rows):
    return tuple(sorted(set(rows), key=lambda row: (len(row), row)))


def within(u, v):
    return any(tuple(v[i] for i in places) == tuple(u) for places in itertools.combinations(range(len(v)), len(u)))


def quick_within(u, v):
    rest = iter(v)
    return all(deed in rest for deed in u)


def move_order(run):
    """The key by which runs are compared: leaving goes before steps."""
    return [(-1 if move == ("leave",) else move[1]) for move in run]


def reachable(book, most_stages=4, most=400):
    """Moments of useful stages that runs reach, the shortest first, with the moves to them."""
    good = useful(book)
    first = ((book.courses[0][0], 0),)
    if first[0] not in good:
        return {}
    found = {first: 0}
    level = [first]
    while level and len(found) < most:
        after = []
        for moment in level:
            for move in let(book, good, moment):
                other = behind(book, moment, move)
                if other not in found and len(other) <= most_stages:
                    found[other] = found[moment] + 1
                    after.append(other)
        level = after
    return found


# Values of many kinds, none of which is what most functions want.
ODD_VALUES = [None, True, False, -1, 3, 1.0, 10 ** 30, "", "main", "A", b"main", [], ["main", 0], {}, {"a": 1}, (),
              ((),), (None,), ("main",), ("main", 0), ("main", True), ("main", 0.0), ("main", -1), ("leave",),
              ("leave", 0), ("do",), ("do", -1), ("do", True), ("do", 0.0), ("do", "0"), ("call", None),
              ("step", 0), ("end",), ([],), (["leave"],), ({},), ((("main", 0), 1),), (("main", 0), ["main", 1]),
              object(), set(), frozenset(), range(3), 1j, ("do", [0]), ([], 0), ({}, 0), (("main", []),)]


def random_courses(rng, names, depth=3, deeds="ab"):
    """A tuple of courses (name, expression)."""
    return tuple((name, random_expression(rng, names, depth, deeds)) for name in names)


def random_expression(rng, names, depth, deeds):
    kind = rng.randrange(8) if depth else rng.randrange(3)
    if kind == 0:
        return ("call", rng.choice(names))
    if kind == 1:
        return ("nothing",)
    if kind == 2:
        return ("deed", rng.choice(deeds))
    if kind in (3, 4):
        return (("seq", "either")[kind - 3], tuple(random_expression(rng, names, depth - 1, deeds)
                                                  for _ in range(rng.randint(2, 3))))
    if kind == 5:
        return ("maybe", random_expression(rng, names, depth - 1, deeds))
    if kind == 6:
        return ("again", random_expression(rng, names, depth - 1, deeds))
    return ("seq", (random_expression(rng, names, depth - 1, deeds), ("deed", rng.choice(deeds))))


def expression_rows(courses, size):
    """What each written expression and each beginning of a seq describes, as sets of rows of at most so many deeds.

    Returns the rows of the courses and the greatest size of all these sets.
    """
    known = {name: set() for name, _ in courses}
    while True:
        sizes = []
        after = {name: rows_by(expression, known, size, sizes) for name, expression in courses}
        if after == known:
            return known, max(sizes)
        known = after
        if max(sizes) > 3000:
            return known, max(sizes)


def rows_by(expression, known, size, sizes):
    word = expression[0]
    if word == "deed":
        rows = {(expression[1],)}
    elif word == "call":
        rows = known[expression[1]]
    elif word == "nothing":
        rows = {()}
    elif word == "seq":
        rows = {()}
        for part in expression[1]:
            more = rows_by(part, known, size, sizes)
            rows = {x + y for x in rows for y in more if len(x) + len(y) <= size}
            sizes.append(len(rows))
    elif word == "either":
        rows = set().union(*[rows_by(part, known, size, sizes) for part in expression[1]])
    elif word == "maybe":
        rows = rows_by(expression[1], known, size, sizes) | {()}
    else:
        once = rows_by(expression[1], known, size, sizes)
        rows = {()}
        while True:
            more = rows | {x + y for x in rows for y in once if len(x) + len(y) <= size}
            if more == rows or len(more) > 3000:
                break
            rows = more
        rows = more
    rows = {row for row in rows if len(row) <= size}
    sizes.append(len(rows))
    return set(rows)


def forward_book(rng, courses=3, stages=4, deeds=4, call_odds=0.4, back_odds=0.15, end_odds=0.1):
    """A book whose steps mostly lead on to later stages of their courses, so that most stages are useful and met."""
    names = ["main", "x", "kit", "a", "pay"][:rng.randint(1, courses)]
    words = "abcdefghijkl"[:deeds]
    made = []
    for name in names:
        many = rng.randint(2, stages)
        found = []
        for number in range(many):
            for _ in range(rng.randint(1, 2) if number < many - 1 else rng.random() < back_odds):
                back = rng.random() < back_odds or number == many - 1
                onto = rng.randrange(many) if back else rng.randint(number + 1, many - 1)
                if rng.random() < call_odds:
                    step = (number, "call", rng.choice(names), onto)
                else:
                    step = (number, "do", rng.choice(words), onto)
                if step not in found:
                    found.append(step)
        ends = tuple(n for n in range(many) if n == many - 1 or rng.random() < end_odds)
        rng.shuffle(found)
        made.append((name, many, ends, tuple(found)))
    return Book(tuple(made))


def forward_books(seed, many, **told):
    rng = random.Random(seed)
    return [forward_book(rng, **told) for _ in range(many)]


def mixed_books(seed, many, **told):
    """As many books, of both kinds by turns."""
    pairs = zip(random_books(seed, many // 2, **told), forward_books(seed, many // 2, **told))
    return [book for pair in pairs for book in pair]
