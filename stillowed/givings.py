"""Givings: rows for moments, and whether they are the ones that are owed."""

from stillowed.ledger import shown_row
from stillowed.moving import let_moves, moment_behind
from stillowed.rows import within
from stillowed.useful import ranks_from_start


def check_giving(book, view, giving):
    """Whether a dict from moments to rows is closed and has the row owed at each moment."""
    useful = ranks_from_start(book)
    if () in giving and giving[()] != ():
        return False
    tight = {moment: [] for moment in giving}
    for moment in giving:
        for move in let_moves(book, useful, moment):
            after = moment_behind(book, moment, move)
            if after not in giving:
                return False
            row = shown_row(book, view, moment, move) + giving[after]
            if not within(giving[moment], row):
                return False
            if giving[moment] == row:
                tight[after].append(moment)
    return lead_to_end(tight)


def lead_to_end(tight):
    """Whether moves from each moment lead to the end, by a dict from moments to those before them."""
    found = {}
    waiting = [()] if () in tight else []
    while waiting:
        moment = waiting.pop()
        if moment not in found:
            found[moment] = True
            waiting.extend(tight[moment])
    return len(found) == len(tight)


def giving_of(table, moments):
    """A dict from each of some moments to the row owed at it."""
    return {moment: table.owed(moment) for moment in moments}
