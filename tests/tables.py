"""Tables of clear books, by several views."""

import random

import brute
from stillowed.lengths import plain
from stillowed.owed import OwedTable, court


def clear_tables(seed, many):
    rng = random.Random(seed)
    found = []
    for book in brute.mixed_books(seed, many):
        if (book.main(), 0) in brute.useful(book):
            for view in (plain(book), brute.random_view(rng, book, 1), brute.random_view(rng, book, 3)):
                table = court(book, view)
                if isinstance(table, OwedTable):
                    found.append(table)
    return found
