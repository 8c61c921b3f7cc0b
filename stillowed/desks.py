"""Books and dealings judged: whether every moment has an ending that lies within all others at every desk."""

from stillowed.dealings import check_dealing, desks_of, part, view_at, within_by
from stillowed.kinds import is_number
from stillowed.lengths import chosen_rows, plain, rows_along, rows_if_short, ways
from stillowed.met import met
from stillowed.owed import OwedTable, TwoEndings, court, joined_row, ranks_along
from stillowed.papers import are_made, check_table, two_if_short
from stillowed.steps import all_in, steps_out
from stillowed.trails import check_trail, trail_to
from stillowed.useful import ranks_from_start
from stillowed.verdicts import DealtTable, DeskSplit, NeverTogether


def judge(book, dealing):
    """A DealtTable if the book is clear by the dealing, otherwise a DeskSplit or a NeverTogether."""
    check_dealing(book, dealing)
    ranks_from_start(book)
    rows = chosen_rows(book, plain(book))
    tables = []
    for desk in desks_of(dealing):
        verdict = court(book, view_at(dealing, desk))
        if isinstance(verdict, TwoEndings):
            return DeskSplit(desk, verdict)
        tables.append((desk, verdict))
    stages = met(book)
    for stage in stages:
        for desk, table in tables:
            # An ending with all owed parts is a shortest one, and so is the chosen row.
            if len(part(dealing, desk, rows[stage])) > len(table.rows[stage]):
                other = rows_along(book, plain(book), table.ways)[stage]
                return NeverTogether(stage, trail_to(book, stage), tuple(tables), desk, rows[stage], other)
    chosen = ways(book, plain(book))
    met_ways = {stage: chosen[stage] for stage in stages}
    return DealtTable(book, dealing, {stage: rows[stage] for stage in stages}, met_ways, ranks_along(book, met_ways))


def is_clear_by(book, dealing):
    """Whether the book is clear by the dealing."""
    return isinstance(judge(book, dealing), DealtTable)


def looks_by(book, dealing, rows):
    """The first pair (stage, number) of a look that does not hold by the dealing, None if all hold."""
    view = plain(book)
    for stage in sorted(rows):
        if book.is_end(stage) and rows[stage] != ():
            return (stage, -1)
        for k, parts in steps_out(book, stage):
            if all_in(parts, rows) and not within_by(dealing, rows[stage], joined_row(book, view, rows, stage, k)):
                return (stage, k)
    return None


def check_verdict(book, dealing, value):
    """Whether any value is a sound verdict on the book and the dealing."""
    check_dealing(book, dealing)
    ranks_from_start(book)
    if isinstance(value, DealtTable):
        return is_dealt(book, dealing, value)
    if isinstance(value, DeskSplit):
        return is_split(book, dealing, value)
    return isinstance(value, NeverTogether) and is_never_together(book, dealing, value)


def has_met_keys(book, table):
    """Whether the keys of a dict are the met stages."""
    return sorted(table) == list(met(book))


def is_dealt(book, dealing, value):
    """Whether a DealtTable is sound."""
    if value.book != book or value.dealing != dealing:
        return False
    if not all([has_met_keys(book, table) for table in (value.rows, value.ways, value.ranks)]):
        return False
    if not all([is_number(value.ranks[stage]) for stage in value.ranks]):
        return False
    if not are_made(book, plain(book), value.rows, value.ways, value.ranks):
        return False
    return looks_by(book, dealing, value.rows) is None


def is_split(book, dealing, value):
    """Whether a DeskSplit is sound."""
    if value.desk not in desks_of(dealing) or not isinstance(value.two, TwoEndings):
        return False
    return two_if_short(book, view_at(dealing, value.desk), value.two) is True


def is_table_for(book, view, value):
    """Whether any value is a sound OwedTable for a book and a view with the met stages as keys."""
    if not isinstance(value, OwedTable) or value.book != book or value.view != view:
        return False
    return has_met_keys(book, value.rows) and check_table(value)


def is_never_together(book, dealing, value):
    """Whether a NeverTogether is sound, with any of the met stages and desks that fit."""
    if [desk for desk, _ in value.tables] != list(desks_of(dealing)):
        return False
    if not all([is_table_for(book, view_at(dealing, desk), table) for desk, table in value.tables]):
        return False
    tables = {desk: table for desk, table in value.tables}
    if value.desk not in tables or not check_trail(book, value.stage, value.trail):
        return False
    rows = rows_if_short(book, plain(book), ways(book, plain(book)))
    others = rows_if_short(book, plain(book), tables[value.desk].ways)
    if rows is None or others is None or (value.one, value.other) != (rows[value.stage], others[value.stage]):
        return False
    return len(part(dealing, value.desk, value.one)) > len(tables[value.desk].rows[value.stage])
