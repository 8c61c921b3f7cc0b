"""Tables of clear books, by several views."""

import random

import brute
from stillowed.books import Book
from stillowed.lengths import plain
from stillowed.owed import OwedTable, court
from stillowed.texts import book_of, read_courses


def clear_tables(seed, many):
    rng = random.Random(seed)
    found = []
    for book in brute.mixed_books(seed, many):
        if (book.main(), 0) in brute.useful(book):
            for view in (plain(book), brute.random_view(rng, book, 1), brute.random_view(rng, book, 3)):
                table = court(book, view)
                if isinstance(table, OwedTable):
                    found.append(table)
    return found


def looped_book(rng, courses=3, longest=3, deeds="ab"):
    """A clear book: each course is a line, at whose stages calls may be made that lead back there, over some deeds."""
    names = ["main", "x", "kit", "a"][:rng.randint(1, courses)]
    made = []
    for name in names:
        line = rng.randint(0, longest)
        steps = [(n, "do", rng.choice(deeds), n + 1) for n in range(line)]
        many = line + 1
        for stage in range(line + 1):
            for _ in range(rng.choice([0, 1, 1, 2])):
                detour = rng.choice([0, 0, 1, 1, 2])
                nodes = [stage] + list(range(many, many + detour)) + [stage]
                step = (stage, "call", rng.choice(names), nodes[1])
                if step not in steps and (detour or rng.random() < 0.5):
                    steps.append(step)
                    steps += [(nodes[n], "do", rng.choice(deeds), nodes[n + 1]) for n in range(1, detour + 1)]
                    many += detour
        made.append((name, many, (line,), tuple(steps)))
    return Book(tuple(made))


def looped_tables(seed, many, **told):
    """Tables of such books, by which many unlike rows are owed, by several views."""
    rng = random.Random(seed)
    found = []
    for _ in range(many):
        book = looped_book(rng, **told)
        for view in (plain(book), brute.random_view(rng, book, 1)):
            table = court(book, view)
            assert isinstance(table, OwedTable)
            found.append(table)
    return found


def wider_row(rng, row):
    """A row within which a row lies, with a deed more or two."""
    for _ in range(rng.randint(1, 2)):
        at = rng.randint(0, len(row))
        row = row[:at] + (rng.choice("abc"),) + row[at:]
    return row


def wider_book(rng):
    """A clear book: each course is a choice of lines, one of which lies within all others; some call the next course."""
    names = ["main", "x", "kit"][:rng.randint(1, 3)]
    texts = []
    for at, name in enumerate(names):
        row = tuple(rng.choice("abc") for _ in range(rng.randint(1, 3)))
        rows = [row] + [wider_row(rng, row) for _ in range(rng.randint(1, 2))]
        middle = f" ({names[at + 1]})" if at + 1 < len(names) else ""
        place = rng.randint(0, 1)
        lines = [" ".join(row[:place]) + middle + " " + " ".join(row[place:]) for row in rows]
        rng.shuffle(lines)
        texts.append(name + ": " + " | ".join(line if line.strip() else "-" for line in lines))
    return book_of(read_courses("\n".join(texts)))


def wider_tables(seed, many):
    """Tables of such books that are clear."""
    rng = random.Random(seed)
    found = []
    while len(found) < many:
        book = wider_book(rng)
        table = court(book, plain(book))
        if isinstance(table, OwedTable):
            found.append(table)
    return found
