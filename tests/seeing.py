"""What can be seen of runs, by trying them all, and books in which it leaves several rows open."""

import random

import brute
from stillowed.errors import InvalidBook
from stillowed.lengths import plain
from stillowed.owed import OwedTable, court
from stillowed.texts import book_of, read_courses


def fitting(book, seen, shown, depth=7, most=1500):
    """The moments that fit, reached through moments of at most `depth` stages; None if there are too many."""
    good = brute.useful(book)
    first = (((book.main(), 0),), 0)
    found = {first}
    level = [first]
    while level:
        after = []
        for moment, place in level:
            for move in brute.let(book, good, moment):
                deed = brute.deed_of(book, moment, move)
                onto = place
                if deed and deed[0] in seen:
                    if shown[place:place + 1] != deed:
                        continue
                    onto = place + 1
                other = (brute.behind(book, moment, move), onto)
                if other not in found and len(other[0]) <= depth:
                    found.add(other)
                    after.append(other)
        level = after
        if len(found) > most:
            return None
    return [moment for moment, place in found if place == len(shown)]


def word(rng, most):
    return " ".join(rng.choice("ab") for _ in range(rng.randint(0, most)))


def blurred_books(seed, many):
    """Books in which the same seen deed z can leave several rows owed."""
    rng = random.Random(seed)
    found = []
    while len(found) < many:
        parts = ["s"]
        for _ in range(rng.randint(1, 4)):
            middle = rng.choice([" ", " (x) ", " (x) (y) ", " (y) "])
            parts.append("z " + word(rng, 3) + middle + word(rng, 3) + " s")
        x = rng.choice(["x: " + (word(rng, 2) or "-"), "x: [h (x) " + word(rng, 1) + "]", "x: [z (y)]"])
        y = rng.choice(["y: -", "y: [(main)]", "y: [h " + word(rng, 2) + "]", "y: {h}"])
        try:
            found.append(book_of(read_courses("main: " + " | ".join(parts) + "\n" + x + "\n" + y)))
        except InvalidBook:
            continue
    return found


def seen_tables(seed, many):
    """Tuples (table, seen, shown, moments that fit) of clear books; some of the shown rows are not visible."""
    rng = random.Random(seed)
    found = []
    books = blurred_books(seed, many)
    books += [book for book in brute.forward_books(seed, many // 2, courses=3, stages=5, deeds=5)
              if (book.main(), 0) in brute.useful(book)]
    for book in books:
        for view in (plain(book), brute.random_view(rng, book, 2)):
            table = court(book, view)
            if not isinstance(table, OwedTable):
                continue
            seen = tuple(deed for deed in book.deeds() if deed in "zs" or rng.random() < 0.5)
            shown = () if "z" not in seen or rng.random() < 0.2 else ("z",)
            shown += tuple(rng.choice(seen) for _ in range(rng.randint(0, 2) if seen else 0))
            moments = fitting(book, seen, shown)
            if moments is not None:
                found.append((table, seen, shown, moments))
    return found
