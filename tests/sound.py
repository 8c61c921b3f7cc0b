"""Whether tables and two endings are sound by the words of [22] to [24], slowly; and moments made of chains of calls."""

import brute


def joined(book, view, rows, stage, k):
    """The joined row of a step whose parts are keys of `rows`."""
    step = book.steps(stage[0])[k]
    row = view[step[2]] if step[1] == "do" else ()
    for part in brute.parts(book, stage, k):
        row += rows[part]
    return row


def has_keys(parts, table):
    return all(part in table for part in parts)


def is_sound_table(table):
    book, rows = table.book, table.rows
    good = brute.useful(book)
    if not set(rows) == set(table.ways) == set(table.ranks) or (book.main(), 0) not in rows:
        return False
    for stage in rows:
        if brute.is_end(book, stage) and rows[stage] != ():
            return False
        for k in brute.leaving(book, stage):
            parts = brute.parts(book, stage, k)
            if not has_keys(parts, rows):
                if has_keys(parts, good):
                    return False
            elif not brute.quick_within(rows[stage], joined(book, table.view, rows, stage, k)):
                return False
        way = table.ways[stage]
        if way == ("end",):
            if not brute.is_end(book, stage) or rows[stage] != ():
                return False
        elif way[1] not in brute.leaving(book, stage):
            return False
        else:
            parts = brute.parts(book, stage, way[1])
            if not has_keys(parts, rows) or any(table.ranks[part] >= table.ranks[stage] for part in parts):
                return False
            if rows[stage] != joined(book, table.view, rows, stage, way[1]):
                return False
    return True


def reached(book):
    """The useful stages with reached numbers, by [30]."""
    good = brute.useful(book)
    found = {(name, 0) for name in book.names()}
    while True:
        new = set(found)
        for stage in found:
            for k in brute.leaving(book, stage):
                parts = brute.parts(book, stage, k)
                if len(parts) == 1 or parts[0] in good:
                    new.add(parts[-1])
        if new == found:
            return {stage for stage in found if stage in good}
        found = new


def moments(book, most):
    """All moments with 1 to `most` stages that runs reach, by [30], the end left out."""
    good = brute.useful(book)
    stages = sorted(reached(book))
    sites = {(brute.parts(book, stage, k)) for stage in stages for k in brute.leaving(book, stage)
             if len(brute.parts(book, stage, k)) == 2 and has_keys(brute.parts(book, stage, k), good)}
    found = []
    chains = [(book.main(), ())] if (book.main(), 0) in good else []
    for many in range(most):
        found.extend((stage,) + rests for course, rests in chains for stage in stages if stage[0] == course)
        if many < most - 1:
            chains = sorted({(inner[0], (rest,) + rests) for course, rests in chains for inner, rest in sites
                             if rest[0] == course})
    return found


def is_closed(book, lot):
    """Whether some stages are closed, by [15]."""
    return not any(brute.is_end(book, stage) for stage in lot) and all(
        any(part in lot for part in brute.parts(book, stage, k)) for stage in lot for k in brute.leaving(book, stage))


def is_trail(book, stage, trail):
    """Whether a tuple of tuples of numbers is a trail to a stage, by [61]."""
    good = brute.useful(book)
    here = (book.main(), 0)
    if here not in good or not trail:
        return False
    for at, frame in enumerate(trail):
        for place, k in enumerate(frame):
            if k not in brute.leaving(book, here) or not has_keys(brute.parts(book, here, k), good):
                return False
            entered = at < len(trail) - 1 and place == len(frame) - 1
            if entered and len(brute.parts(book, here, k)) < 2:
                return False
            here = brute.parts(book, here, k)[0 if entered else -1]
        if not frame and at < len(trail) - 1:
            return False
    return here == stage


def way_length(book, view, table, stage, way):
    """The deeds of a way and the numbers of its parts; None if it is no way or a part is missing."""
    if way == ("end",):
        return 0 if brute.is_end(book, stage) else None
    if way[1] not in brute.leaving(book, stage):
        return None
    step = book.steps(stage[0])[way[1]]
    parts = brute.parts(book, stage, way[1])
    if not has_keys(parts, table):
        return None
    return (len(view[step[2]]) if step[1] == "do" else 0) + sum(table[part] for part in parts)


def are_lengths(book, view, table, chosen):
    """`check_lengths`, by [18]."""
    if set(table) != set(chosen) or not is_closed(book, {stage for stage in brute.all_stages(book) if stage not in table}):
        return False
    made = set()
    while True:
        new = {stage for stage in chosen if way_length(book, view, table, stage, chosen[stage]) is not None and (
            chosen[stage] == ("end",) or has_keys(brute.parts(book, stage, chosen[stage][1]), made))}
        if new == made:
            break
        made = new
    if made != set(chosen):
        return False
    for stage in table:
        others = [("end",)] + [("step", k) for k in brute.leaving(book, stage)]
        found = [way_length(book, view, table, stage, way) for way in others]
        if table[stage] != way_length(book, view, table, stage, chosen[stage]):
            return False
        if any(length is not None and length < table[stage] for length in found):
            return False
    return True


def rows_along(book, view, chosen):
    """The rows along sound ways."""
    rows = {}
    while len(rows) < len(chosen):
        for stage, way in chosen.items():
            if way == ("end",):
                rows[stage] = ()
            elif has_keys(brute.parts(book, stage, way[1]), rows):
                rows[stage] = joined(book, view, rows, stage, way[1])
    return rows


def is_sound_two(book, view, two):
    """Whether two endings with a trail of tuples of numbers are sound, by [24]."""
    if not are_lengths(book, view, two.lengths, two.ways) or two.stage not in two.lengths:
        return False
    if not is_trail(book, two.stage, two.trail):
        return False
    rows = rows_along(book, view, two.ways)
    others = [joined(book, view, rows, two.stage, k) for k in brute.leaving(book, two.stage)
              if has_keys(brute.parts(book, two.stage, k), rows)]
    return two.one == rows[two.stage] and two.other in others and not brute.quick_within(two.one, two.other)
