"""Two books that run side by side: what couples of their moments owe to desks."""

from stillowed.dealings import desks_of
from stillowed.errors import Refused
from stillowed.kinds import copied, is_integer


class Woven:
    """Two books that never owe to one desk, and for each desk that is owed to the number of the book that owes."""

    def __init__(self, one, other, owing):
        self.one = one
        self.other = other
        self.owing = copied(owing)

    def parts(self, first, second):
        """The ascending pairs (desk, row owed to it) of a couple of moments, for all desks of both dealings."""
        rows = {desk: () for table in (self.one, self.other) for desk in desks_of(table.dealing)}
        for table, moment in ((self.one, first), (self.other, second)):
            for desk, row in table.parts_at(moment):
                rows[desk] = rows[desk] + row
        return tuple([(desk, rows[desk]) for desk in sorted(rows)])


class Clash:
    """A desk to which stages of both books owe, and two endings of this couple without one within both."""

    def __init__(self, desk, first, second, one, other):
        self.desk = desk
        self.first = first
        self.second = second
        self.one = one
        self.other = other


def owing_desks(table):
    """A dict from each desk to which some met stage owes a deed, ascending, to the first such stage."""
    found = {}
    for desk in desks_of(table.dealing):
        stages = [stage for stage in sorted(table.rows) if table.part_at(desk, stage)]
        if stages:
            found[desk] = stages[0]
    return found


def check_apart(one, other):
    """Raise Refused("deeds") if the books of two tables have a deed in common."""
    deeds = {deed: True for deed in one.book.deeds()}
    if any([deed in deeds for deed in other.book.deeds()]):
        raise Refused("deeds")


def weave(one, other):
    """The Woven of two tables, or a Clash if some desk is owed to in both books."""
    check_apart(one, other)
    firsts = owing_desks(one)
    seconds = owing_desks(other)
    for desk in firsts:
        if desk in seconds:
            u = one.part_at(desk, firsts[desk])
            v = other.part_at(desk, seconds[desk])
            return Clash(desk, firsts[desk], seconds[desk], u + v, v + u)
    return Woven(one, other, {desk: 0 if desk in firsts else 1 for desk in sorted(list(firsts) + list(seconds))})


def check_weave(one, other, value):
    """Whether any value is a Woven or a Clash of two tables."""
    check_apart(one, other)
    if isinstance(value, Woven):
        return tells_owing(value.owing, one, 0) and tells_owing(value.owing, other, 1)
    if not isinstance(value, Clash) or not is_met(one, value.first) or not is_met(other, value.second):
        return False
    if value.desk not in desks_of(one.dealing):
        return False
    u = one.part_at(value.desk, value.first)
    v = other.part_at(value.desk, value.second)
    return u != () and v != () and (value.one, value.other) == (u + v, v + u)


def tells_owing(owing, table, number):
    """Whether any value is a dict with this number for each desk to which a table owes."""
    if not isinstance(owing, dict):
        return False
    return all([is_integer(owing.get(desk)) and owing[desk] == number for desk in owing_desks(table)])


def is_met(table, stage):
    """Whether any value is a met stage of a table."""
    return table.book.is_stage(stage) and stage in table.rows
