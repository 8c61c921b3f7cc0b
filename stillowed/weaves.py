"""Weaves: owed rows whose deeds are shuffled between desks, and whether all of them can be done."""

from stillowed.dealings import desk_of, desks_by_deed, desks_of, same_by
from stillowed.debts import sites_of
from stillowed.errors import Refused
from stillowed.kinds import ascending, copied, is_lot, is_number
from stillowed.lengths import plain
from stillowed.moving import stages_put
from stillowed.owed import joined_row
from stillowed.steps import all_in, steps_out
from stillowed.trails import followed, trail_moment, trail_to
from stillowed.useful import ranks
from stillowed.walks import walk_steps, walks_of

MOST_MOVES = 20000


class Free:
    """All weaves are endings: for each met stage how its desks go on, and for each course the desks outside."""

    def __init__(self, table, starts, outer):
        self.table = table
        self.starts = copied(starts)
        self.outer = copied(outer)


class NotFree:
    """A moment, with a trail to it, and a weave of it with whose first deed no run from there begins."""

    def __init__(self, trail, pile, weave):
        self.trail = trail
        self.pile = pile
        self.weave = weave


def is_weave(table, moment, row):
    """Whether a row of deeds of the book is alike to the row owed at a moment."""
    return same_by(table.dealing, row, table.owed(moment))


def owed_desks(table, stage):
    """The ascending desks to which a met stage owes deeds."""
    desks = desks_by_deed(table.dealing)
    return sorted({desks[deed]: True for deed in table.rows[stage]})


def tight_onward(table):
    """For each met stage, ascending, the tuples (k, step, parts) of its tight steps."""
    book = table.book
    view = plain(book)
    found = {}
    for stage in sorted(table.rows):
        steps = book.steps(stage[0])
        found[stage] = [(k, steps[k], parts) for k, parts in steps_out(book, stage) if all_in(parts, table.rows)
                        and is_weave(table, (stage,), joined_row(book, view, table.rows, stage, k))]
    return found


def parts_to_ask(table, parts):
    """The parts of a call by each of which a desk can go on that can go on there."""
    return parts if table.rows[parts[0]] == () else parts[:1]


def starts_of(table):
    """For each met stage, ascending, a dict from the desks that can go on there to some (step, rank) that tells how."""
    onward = tight_onward(table)
    found = {stage: {} for stage in onward}
    # Round by round: in each one only what is known from earlier ones counts, so that its number is the rank.
    rank = 0
    grown = True
    while grown:
        fresh = {stage: fresh_starts(table, onward[stage], found, found[stage]) for stage in onward}
        grown = any([len(fresh[stage]) > 0 for stage in fresh])
        for stage in fresh:
            for desk in fresh[stage]:
                found[stage][desk] = (fresh[stage][desk], rank)
        rank += 1
    return found


def fresh_starts(table, steps, found, known):
    """A dict from the desks that can go on at a stage and were not known to, to the first step by which they do."""
    fresh = {}
    for k, step, parts in steps:
        if step[1] == "do":
            desks = [desk_of(table.dealing, step[2])]
        else:
            desks = [desk for part in parts_to_ask(table, parts) for desk in found[part]]
        for desk in desks:
            if desk not in known:
                fresh.setdefault(desk, k)
    return fresh


def starters(table):
    """A dict from each met stage to the lot of the desks that can go on there."""
    starts = starts_of(table)
    return {stage: tuple(sorted(starts[stage])) for stage in starts}


def outside(table):
    """A dict from each course with a met stage to the lot of the desks outside it."""
    found = {stage[0]: {} for stage in table.rows}
    sites = sites_of(table)
    for _ in range(len(found)):
        for stage, _, course, rest in sites:
            for desk in owed_desks(table, rest) + list(found[stage[0]]):
                found[course][desk] = True
    return ascending({course: tuple(sorted(found[course])) for course in found})


def weaves(table):
    """Free if all weaves of all moments are endings, otherwise some NotFree."""
    starts = starts_of(table)
    outer = outside(table)
    for stage in starts:
        desks = owed_desks(table, stage)
        for desk in desks:
            if desk not in starts[stage]:
                return not_free(table, trail_to(table.book, stage), desk)
        for desk in outer[stage[0]]:
            if desks and desk not in desks:
                return not_free(table, trail_below(table, desk, stage), desk)
    return Free(table, {stage: triples_of(starts[stage]) for stage in starts}, outer)


def triples_of(starts):
    """The ascending triples (desk, step, rank) of a dict from desks to (step, rank)."""
    return tuple([(desk,) + starts[desk] for desk in sorted(starts)])


def not_free(table, trail, desk):
    """The NotFree of the moment of a trail, with the first deed owed to a desk put to the front."""
    pile = trail_moment(table.book, trail)
    row = table.owed(pile)
    at = [place for place, deed in enumerate(row) if desk_of(table.dealing, deed) == desk][0]
    return NotFree(trail, pile, (row[at],) + row[:at] + row[at + 1:])


def trail_below(table, desk, stage):
    """A trail to a stage over some stage behind a call that owes to a desk outside of its course.

    It goes along sites from the main course; a state is (course, whether some rest owes to the desk).
    """
    sites = sites_of(table)
    queue = [(table.book.main(), False)]
    arrivals = {queue[0]: ()}
    at = 0
    while queue[at] != (stage[0], True):
        for site in sites:
            after = (site[2], queue[at][1] or desk in owed_desks(table, site[3]))
            if site[0][0] == queue[at][0] and after not in arrivals:
                arrivals[after] = (queue[at], site)
                queue.append(after)
        at += 1
    return trail_along_sites(table, arrivals, queue[at], stage)


def trail_along_sites(table, arrivals, state, stage):
    """The trail along the arrivals to a state and then to a stage of its course."""
    book = table.book
    useful = ranks(book)
    frames = [tuple(walk_steps(book, walks_of(book, useful, stage[0]), stage[0], stage[1]))]
    while arrivals[state]:
        state, (left, k, _, _) = arrivals[state]
        walk = walk_steps(book, walks_of(book, useful, left[0]), left[0], left[1])
        frames.append(tuple(walk + [k]))
    return tuple(reversed(frames))


def run_of_weave(free, moment, row):
    """The moves to the end that do a weave of a moment, None if the row is none."""
    table = free.table
    if not is_weave(table, moment, row):
        return None
    desks = desks_by_deed(table.dealing)
    steps = {stage: {desk: k for desk, k, _ in free.starts[stage]} for stage in free.starts}
    opened = list(reversed(moment))
    run = []
    place = 0
    while opened:
        stage = opened.pop()
        if table.rows[stage] == ():
            move = move_of_way(table.book, stage, table.ways[stage])
        else:
            move = move_of_way(table.book, stage, ("step", steps[stage][desks[row[place]]]))
        run.append(move)
        if len(run) > MOST_MOVES:
            raise Refused("long")
        place += 1 if move[0] == "do" else 0
        opened.extend(stages_put(table.book, stage, move)[::-1])
    return tuple(run)


def move_of_way(book, stage, way):
    """The move that follows a way of a stage."""
    if way == ("end",):
        return ("leave",)
    return (book.steps(stage[0])[way[1]][1], way[1])


def check_weaves(table, value):
    """Whether any value is a Free or a NotFree of a table."""
    if isinstance(value, NotFree):
        return is_not_free(table, value)
    if not isinstance(value, Free) or not is_outer(table, value.outer):
        return False
    if not isinstance(value.starts, dict) or sorted(value.starts) != sorted(table.rows):
        return False
    told = {stage: {desk: rank for desk, _, rank in value.starts[stage]} for stage in value.starts}
    onward = tight_onward(table)
    for stage in onward:
        if [start[0] for start in value.starts[stage]] != owed_desks(table, stage):
            return False
        if not all([is_start(table, told, onward[stage], start) for start in value.starts[stage]]):
            return False
    return True


def is_start(table, told, steps, start):
    """Whether a triple (desk, step, rank) tells how a desk goes on, by tight steps and the ranks that are told."""
    desk, number, rank = start
    if not is_number(rank):
        return False
    for k, step, parts in steps:
        if k == number and step[1] == "do":
            return desk_of(table.dealing, step[2]) == desk
        if k == number:
            return any([desk in told[part] and told[part][desk] < rank for part in parts_to_ask(table, parts)])
    return False


def is_outer(table, outer):
    """Whether any value is a dict from the courses with met stages to lots that hold all desks outside them.

    Each stage with another row than the empty one has to owe to all of them.
    """
    courses = {stage[0]: True for stage in table.rows}
    if not isinstance(outer, dict) or sorted(outer) != sorted(courses):
        return False
    desks = desks_of(table.dealing)
    if not all([is_lot(outer[course]) and all_in(outer[course], desks) for course in outer]):
        return False
    for stage, _, course, rest in sites_of(table):
        if not all_in(owed_desks(table, rest) + list(outer[stage[0]]), outer[course]):
            return False
    return all([table.rows[stage] == () or all_in(outer[stage[0]], owed_desks(table, stage)) for stage in table.rows])


def is_not_free(table, value):
    """Whether a NotFree is one of a table."""
    place, moment = followed(table.book, ranks(table.book), value.trail)
    if place is not None or moment != value.pile or table.rows[moment[0]] == ():
        return False
    desks = desks_by_deed(table.dealing)
    if not value.weave or not all_in(value.weave, desks) or not is_weave(table, moment, value.weave):
        return False
    return desks[value.weave[0]] not in starts_of(table)[moment[0]]
