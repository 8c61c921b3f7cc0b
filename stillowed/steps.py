"""What steps and ways lead to."""


def parts_of(course, step):
    """The stages to which a step of a course leads, innermost first."""
    _, kind, name, onto = step
    if kind == "do":
        return ((course, onto),)
    return ((name, 0), (course, onto))


def steps_into(book):
    """For each stage, each step that has it as a part: (stage it leaves, step, its parts)."""
    found = {stage: [] for stage in book.stages()}
    for course in book.names():
        for step in book.steps(course):
            parts = parts_of(course, step)
            for part in parts:
                found[part].append(((course, step[0]), step, parts))
    return found


def steps_out(book, stage):
    """The pairs (number of the step, its parts) of the steps that leave a stage."""
    steps = book.steps(stage[0])
    return [(k, parts_of(stage[0], steps[k])) for k in book.steps_from(stage)]


def all_in(parts, table):
    """Whether all parts are keys of the table."""
    return all([part in table for part in parts])


def is_closed(book, lot):
    """Whether no course may end in the lot, a dict of stages, and no step leads out of it."""
    for stage in lot:
        if book.is_end(stage):
            return False
        for _, parts in steps_out(book, stage):
            if not any([part in lot for part in parts]):
                return False
    return True


def is_rest_closed(book, table):
    """Whether the stages that are no keys of the table are a closed lot."""
    return is_closed(book, {stage: True for stage in book.stages() if stage not in table})
