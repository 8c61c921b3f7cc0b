"""Ranks of the useful stages, and certificates of the useless ones."""

from stillowed.costs import settled
from stillowed.errors import NoEnding
from stillowed.kinds import ascending, is_lot
from stillowed.steps import all_in, is_closed, is_rest_closed, steps_out

ONE_MOVE = (1, 0)


def ranks(book):
    """A dict from each useful stage to the fewest moves after which its course has been left."""
    deed_costs = {deed: ONE_MOVE for deed in book.deeds()}
    found = settled(book, ONE_MOVE, deed_costs, ONE_MOVE)
    return ascending({stage: found[stage][0] for stage in found})


def useless(book):
    """The lot of the stages that are not useful."""
    useful = ranks(book)
    return tuple([stage for stage in book.stages() if stage not in useful])


def check_useless(book, stages):
    """Whether a tuple of stages is a closed lot."""
    return is_lot(stages) and is_closed(book, {stage: True for stage in stages})


def check_ranks(book, table):
    """Whether a dict from stages to integers is `ranks(book)`, by its certificate."""
    if not is_rest_closed(book, table):
        return False
    return all([table[stage] >= 1 and table[stage] == rank_by(book, table, stage) for stage in table])


def rank_by(book, table, stage):
    """The rank of a stage by the ranks that a table gives to its parts, None if it has none."""
    numbers = [1] if book.is_end(stage) else []
    for _, parts in steps_out(book, stage):
        if all_in(parts, table):
            numbers.append(1 + sum([table[part] for part in parts]))
    return min(numbers, default=None)


def ranks_from_start(book):
    """The ranks of a book whose main course can end; raises NoEnding if it cannot."""
    useful = ranks(book)
    first = (book.main(), 0)
    if first not in useful:
        raise NoEnding(first)
    return useful
