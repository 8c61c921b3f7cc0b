"""Blurs: deeds that are hidden or not told apart, and the finest blurs by which a book is clear."""

from stillowed.errors import Refused
from stillowed.owed import OwedTable, court
from stillowed.papers import check_table, check_two

MOST_DEEDS = 5


def blur_view(blur):
    """The dict from each deed to the empty row if it is hidden, otherwise to the row of its mark."""
    return {deed: (mark,) if mark else () for deed, mark in blur}


def check_few(deeds):
    """Raise Refused("wide") if there are more than 5 deeds."""
    if len(deeds) > MOST_DEEDS:
        raise Refused("wide")


def all_blurs(deeds):
    """All blurs of a lot of deeds, ascending."""
    check_few(deeds)
    found = [()]
    for deed in deeds:
        found = [blur + ((deed, mark),) for blur in found for mark in ["", deed] + classes_of(blur)]
    return tuple(sorted(found))


def classes_of(blur):
    """The marks of the classes of a blur."""
    return [deed for deed, mark in blur if deed == mark]


def coarser(one, other):
    """Whether a blur hides what another one hides, and hides or does not tell apart what that does not tell apart."""
    marks = {deed: mark for deed, mark in one}
    # What the one blur makes of each class of the other one; this has to be one mark.
    made = {"": ""}
    for deed, mark in other:
        if made.setdefault(mark, marks[deed]) != marks[deed]:
            return False
    return True


def just_finer(blur):
    """The blurs made of a blur by splitting one class or by making a class of some hidden deeds, ascending."""
    check_few(blur)
    found = []
    for mark in [""] + classes_of(blur):
        members = [deed for deed, other in blur if other == mark]
        for lot in lots_to_take(members, mark == ""):
            found.append(with_class(blur, lot))
    return tuple(sorted(found))


def lots_to_take(members, may_take_all):
    """The lots of some members, not empty, of which a new class can be made.

    Of a class to be split, the first member stays where it is, so that no blur is made twice.
    """
    lots = [()]
    for deed in members if may_take_all else members[1:]:
        lots.extend([lot + (deed,) for lot in lots])
    return lots[1:]


def with_class(blur, lot):
    """A blur with a class of its own for a lot of its deeds."""
    return tuple([(deed, lot[0] if deed in lot else mark) for deed, mark in blur])


def finest_blurs(book):
    """The blurs by which a book is clear and that are coarser than no other such blur, ascending."""
    found = []
    blurs = list(all_blurs(book.deeds()))
    # From the finest blurs on: what is coarser than a clear one need not be asked for.
    while blurs:
        finest = [blur for blur in blurs if not any([blur != other and coarser(blur, other) for other in blurs])]
        found.extend([blur for blur in finest if isinstance(court(book, blur_view(blur)), OwedTable)])
        blurs = [blur for blur in blurs if blur not in finest and not any([coarser(blur, other) for other in found])]
    return tuple(sorted(found))


def finest_paper(book, blur):
    """The table of one of the finest blurs, and two endings for each just finer one; None for other blurs."""
    check_few(book.deeds())
    table = court(book, blur_view(blur))
    if not isinstance(table, OwedTable):
        return None
    tears = []
    for finer in just_finer(blur):
        two = court(book, blur_view(finer))
        if isinstance(two, OwedTable):
            return None
        tears.append((finer, two))
    return (table, tuple(tears))


def check_finest(book, blur, table, tears):
    """Whether a table and a tuple of pairs of blurs and two endings show that a blur is one of the finest."""
    check_few(blur)
    if table.book != book or table.view != blur_view(blur) or not check_table(table):
        return False
    if tuple([finer for finer, _ in tears]) != just_finer(blur):
        return False
    return all([check_two(book, blur_view(finer), two) for finer, two in tears])
