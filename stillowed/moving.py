"""Single moves: their form, why one is refused, and what is behind it."""

from stillowed.kinds import is_number
from stillowed.steps import all_in, parts_of, steps_out


def has_move_form(value):
    """Whether any value is ("leave",), ("do", k) or ("call", k) with a number k."""
    if not isinstance(value, tuple) or not 1 <= len(value) <= 2 or not isinstance(value[0], str):
        return False
    if len(value) == 1:
        return value[0] == "leave"
    return value[0] in ("do", "call") and is_number(value[1])


def fault_of(book, useful, stage, move):
    """The word by which any value is refused as a move from an innermost stage (None: the end), None if it is let."""
    if not has_move_form(move):
        return "form"
    if stage is None:
        return "over"
    if len(move) == 1:
        return None if book.is_end(stage) else "leave"
    if move[1] not in book.steps_from(stage):
        return "step"
    step = book.steps(stage[0])[move[1]]
    if step[1] != move[0]:
        return "step"
    return None if all_in(parts_of(stage[0], step), useful) else "useless"


def innermost(moment):
    """The innermost stage of a moment, None at the end."""
    return moment[0] if moment else None


def let_moves(book, useful, moment):
    """The list of the moves that are let at a moment."""
    if not moment:
        return []
    stage = moment[0]
    found = [("leave",)] if book.is_end(stage) else []
    for k, parts in steps_out(book, stage):
        if all_in(parts, useful):
            found.append((book.steps(stage[0])[k][1], k))
    return found


def stages_put(book, stage, move):
    """The stages that a move puts in the place of the innermost one, innermost first."""
    if len(move) == 1:
        return ()
    return parts_of(stage[0], book.steps(stage[0])[move[1]])


def moment_behind(book, moment, move):
    """The moment behind a move that is let."""
    return stages_put(book, moment[0], move) + moment[1:]


def stages_before(book, useful, run):
    """The innermost stage before each move of a tuple or list, up to the first value in it that is no let move."""
    opened = [(book.main(), 0)]
    found = []
    for move in run:
        stage = opened[-1] if opened else None
        if fault_of(book, useful, stage, move) is not None:
            return found
        found.append(stage)
        opened.pop()
        opened.extend(stages_put(book, stage, move)[::-1])
    return found
