"""Whether tables and two endings are sound by the words of [22] to [24], slowly; and moments made of chains of calls."""

import brute


def joined(book, view, rows, stage, k):
    """The joined row of a step whose parts are keys of `rows`."""
    step = book.steps(stage[0])[k]
    row = view[step[2]] if step[1] == "do" else ()
    for part in brute.parts(book, stage, k):
        row += rows[part]
    return row


def has_keys(parts, table):
    return all(part in table for part in parts)


def is_sound_table(table):
    book, rows = table.book, table.rows
    good = brute.useful(book)
    if not set(rows) == set(table.ways) == set(table.ranks) or (book.main(), 0) not in rows:
        return False
    for stage in rows:
        if brute.is_end(book, stage) and rows[stage] != ():
            return False
        for k in brute.leaving(book, stage):
            parts = brute.parts(book, stage, k)
            if not has_keys(parts, rows):
                if has_keys(parts, good):
                    return False
            elif not brute.quick_within(rows[stage], joined(book, table.view, rows, stage, k)):
                return False
        way = table.ways[stage]
        if way == ("end",):
            if not brute.is_end(book, stage) or rows[stage] != ():
                return False
        elif way[1] not in brute.leaving(book, stage):
            return False
        else:
            parts = brute.parts(book, stage, way[1])
            if not has_keys(parts, rows) or any(table.ranks[part] >= table.ranks[stage] for part in parts):
                return False
            if rows[stage] != joined(book, table.view, rows, stage, way[1]):
                return False
    return True


def reached(book):
    """The useful stages with reached numbers, by [30]."""
    good = brute.useful(book)
    found = {(name, 0) for name in book.names()}
    while True:
        new = set(found)
        for stage in found:
            for k in brute.leaving(book, stage):
                parts = brute.parts(book, stage, k)
                if len(parts) == 1 or parts[0] in good:
                    new.add(parts[-1])
        if new == found:
            return {stage for stage in found if stage in good}
        found = new


def moments(book, most):
    """All moments with 1 to `most` stages that runs reach, by [30], the end left out."""
    good = brute.useful(book)
    stages = sorted(reached(book))
    sites = {(brute.parts(book, stage, k)) for stage in stages for k in brute.leaving(book, stage)
             if len(brute.parts(book, stage, k)) == 2 and has_keys(brute.parts(book, stage, k), good)}
    found = []
    chains = [(book.main(), ())] if (book.main(), 0) in good else []
    for many in range(most):
        found.extend((stage,) + rests for course, rests in chains for stage in stages if stage[0] == course)
        if many < most - 1:
            chains = sorted({(inner[0], (rest,) + rests) for course, rests in chains for inner, rest in sites
                             if rest[0] == course})
    return found
