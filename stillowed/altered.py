"""Books with other ends and steps."""

from stillowed.books import Book


def altered(book, ends, steps):
    """The book with the ends and the steps that two dicts have for courses; other courses stay as they are."""
    return Book(tuple([(name, stages, ends.get(name, old_ends), steps.get(name, old_steps))
                       for name, stages, old_ends, old_steps in book.courses]))
