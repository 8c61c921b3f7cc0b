"""Changed books: steps barred, steps and ends put in, and what is owed then."""

from stillowed.altered import altered
from stillowed.books import MOST_DEEDS, is_step
from stillowed.errors import InvalidMove, Refused
from stillowed.kinds import is_number
from stillowed.met import met
from stillowed.moments import check_tuple, stages_along
from stillowed.owed import OwedTable, court, tight_steps
from stillowed.rows import within
from stillowed.steps import all_in, parts_of
from stillowed.useful import ranks_from_start

MOST_PUT_IN = 1000


class Change:
    """What is owed in another book in the place of a table's book.

    The word is "dead", "broken" (with two endings), "kept" or "turned" (with a table); `changed` has the stages with
    other rows, `fresh` those that are met only now, and `gone` those that no longer are.
    """

    def __init__(self, book, word, table, two, changed, fresh, gone):
        self.book = book
        self.word = word
        self.table = table
        self.two = two
        self.changed = changed
        self.fresh = fresh
        self.gone = gone


def is_step_name(book, value):
    """Whether any value is a pair of the name of a course and the number of one of its steps."""
    if not isinstance(value, tuple) or len(value) != 2 or book.index_of(value[0]) is None:
        return False
    return is_number(value[1]) and value[1] < len(book.steps(value[0]))


def checked_bars(book, bars):
    """The bars as a dict; raises InvalidMove if any value is no tuple of unlike names of steps."""
    check_tuple(bars)
    found = {}
    for at, bar in enumerate(bars):
        if not is_step_name(book, bar) or bar in found:
            raise InvalidMove(at)
        found[bar] = True
    return found


def barred(book, bars):
    """The book without the steps that any value names."""
    return without_steps(book, checked_bars(book, bars))


def without_steps(book, bars):
    """The book without the steps that are keys of a dict."""
    return altered(book, {}, {name: tuple([book.steps(name)[k] for k in numbers_left(book, bars, name)])
                              for name in book.names()})


def numbers_left(book, bars, name):
    """The numbers of the steps of a course that are not barred."""
    return [k for k in range(len(book.steps(name))) if (name, k) not in bars]


def new_numbers(book, bars):
    """A dict from the name of each step that is left to its name in the barred book."""
    known = checked_bars(book, bars)
    return {(name, old): (name, new) for name in sorted(book.names())
            for new, old in enumerate(numbers_left(book, known, name))}


def old_run(book, bars, run):
    """Any value that is a run of the barred book, with the numbers that its steps have in the book."""
    known = checked_bars(book, bars)
    without = without_steps(book, known)
    stages = stages_along(without, ranks_from_start(without), run)
    left = {name: numbers_left(book, known, name) for name in book.names()}
    return tuple([move if len(move) == 1 else (move[0], left[stage[0]][move[1]]) for stage, move in zip(stages, run)])


def lost(table, bars):
    """The lot of the stages with rows whose row is no ending of theirs in the barred book."""
    known = checked_bars(table.book, bars)
    return lost_stages(table, tight_steps(table.book, table), known)


def lost_stages(table, steps, bars):
    """The stages that lose their row without some steps: as it is a least ending, only tight steps make it."""
    keeping = {stage: True for stage in table.rows if table.book.is_end(stage)}
    left = [(stage, parts) for stage, k, parts in steps if (stage[0], k) not in bars]
    grown = True
    while grown:
        grown = False
        for stage, parts in left:
            if stage not in keeping and all_in(parts, keeping):
                keeping[stage] = True
                grown = True
    return tuple([stage for stage in sorted(table.rows) if stage not in keeping])


def needed(table):
    """The lot of the names of the steps without each of which some stage loses its row."""
    steps = tight_steps(table.book, table)
    names = [(stage[0], k) for stage, k, _ in steps]
    return tuple(sorted([name for name in names if lost_stages(table, steps, {name: True})]))


def spare(table):
    """The lot of the names of the steps that leave stages with rows and are not their ways."""
    return tuple(sorted([(stage[0], k) for stage in table.rows for k in table.book.steps_from(stage)
                         if table.ways[stage] != ("step", k)]))


def is_course_step(book, value):
    """Whether any value is a pair of the name of a course and a step that it could have."""
    if not isinstance(value, tuple) or len(value) != 2:
        return False
    place = book.index_of(value[0])
    if place is None or not is_step(value[1], book.courses[place][1]):
        return False
    return value[1][1] == "do" or book.index_of(value[1][2]) is not None


def with_steps(book, steps):
    """The book with more steps, told by any value that is a tuple of pairs (course, step)."""
    check_tuple(steps)
    found = {name: list(book.steps(name)) for name in book.names()}
    deeds = {deed: True for deed in book.deeds()}
    for at, pair in enumerate(steps):
        if not is_course_step(book, pair) or pair[1] in found[pair[0]]:
            raise InvalidMove(at)
        if pair[1][1] == "do":
            deeds[pair[1][2]] = True
        if len(deeds) > MOST_DEEDS:
            raise InvalidMove(at)
        found[pair[0]].append(pair[1])
    return altered(book, {}, {name: tuple(found[name]) for name in found})


def with_ends(book, stages):
    """The book whose courses may also end at some stages, told by any value that is a tuple of them."""
    check_tuple(stages)
    found = {name: list(book.ends(name)) for name in book.names()}
    for at, stage in enumerate(stages):
        if not book.is_stage(stage) or stage[1] in found[stage[0]]:
            raise InvalidMove(at)
        found[stage[0]].append(stage[1])
    return altered(book, {name: tuple(sorted(found[name])) for name in found}, {})


def check_shown(table, course, step):
    """Raise InvalidMove(0) if two values are no course and a step that it could have, or the view lacks its deed."""
    if not is_course_step(table.book, (course, step)):
        raise InvalidMove(0)
    if step[1] == "do" and step[2] not in table.view:
        raise InvalidMove(0)


def brings(table, course, step):
    """The view's row of the deed of a step, if any, and the rows of its parts; None if a part has no row."""
    check_shown(table, course, step)
    return brought(table, course, step)


def brought(table, course, step):
    """What `brings` returns, for a step whose deed has a row in the view."""
    parts = parts_of(course, step)
    if not all_in(parts, table.rows):
        return None
    return (table.view[step[2]] if step[1] == "do" else ()) + table.owed(parts)


def effect(table, course, step):
    """The word for what a step does that is put in: "within", "shorter" or "apart"; None if it is not inner."""
    row = brings(table, course, step)
    stage = (course, step[0])
    if row is None or stage not in table.rows:
        return None
    if within(table.rows[stage], row):
        return "within"
    return "shorter" if within(row, table.rows[stage]) else "apart"


def may_put_in(table):
    """The lot of the pairs (course, step) that the book does not have and that change no row."""
    book = table.book
    named = [("do", deed) for deed in book.deeds()] + [("call", name) for name in book.names()]
    found = []
    for stage in sorted(table.rows):
        course = stage[0]
        had = {step: True for step in book.steps(course)}
        nexts = [onto for name, onto in table.rows if name == course]
        for step in [(stage[1], kind, name, onto) for kind, name in named for onto in nexts]:
            row = brought(table, course, step)
            if step not in had and row is not None and within(table.rows[stage], row):
                found.append((course, step))
        if len(found) > MOST_PUT_IN:
            raise Refused("wide")
    return tuple(sorted(found))


def may_end(table):
    """The lot of the stages with the empty row that are no ends."""
    return tuple([stage for stage in sorted(table.rows) if table.rows[stage] == () and not table.book.is_end(stage)])


def greatest(table):
    """The book with all steps and ends that change no row."""
    return with_ends(with_steps(table.book, may_put_in(table)), may_end(table))


def change_to(table, book):
    """The Change by which a book takes the place of the table's one."""
    stages = met(book)
    fresh = tuple([stage for stage in stages if stage not in table.rows])
    gone = tuple([stage for stage in sorted(table.rows) if stage not in stages])
    if not stages:
        return Change(book, "dead", None, None, (), fresh, gone)
    verdict = court(book, {deed: table.view[deed] for deed in book.deeds()})
    if not isinstance(verdict, OwedTable):
        return Change(book, "broken", None, verdict, (), fresh, gone)
    changed = tuple([(stage, table.rows[stage], verdict.rows[stage]) for stage in stages
                     if stage in table.rows and table.rows[stage] != verdict.rows[stage]])
    return Change(book, "turned" if changed else "kept", verdict, None, changed, fresh, gone)


def bar_out(table, bars):
    """The Change by which some steps, told by any value, are barred."""
    return change_to(table, barred(table.book, bars))


def put_in(table, course, step):
    """The Change by which a step is put in."""
    check_shown(table, course, step)
    return change_to(table, with_steps(table.book, ((course, step),)))
