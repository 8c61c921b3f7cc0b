"""Coarsest dealings by which a book is clear, and the lots of deeds that one desk can have."""

from stillowed.dealings import dealing_of, own_desks
from stillowed.desks import is_table_for, judge
from stillowed.errors import Refused
from stillowed.kinds import is_lot
from stillowed.owed import OwedTable, TwoEndings, court
from stillowed.papers import two_if_short
from stillowed.rows import all_lots, in_order, within
from stillowed.useful import ranks_from_start
from stillowed.verdicts import DealtTable

MOST_DEEDS = 6


class Blocks:
    """The greatest clear blocks with their tables, and the least lots that are none with two endings each."""

    def __init__(self, faces, walls):
        self.faces = faces
        self.walls = walls


def view_of(book, lot):
    """The view by which the deeds of a lot stand for themselves and others for the empty row."""
    return {deed: (deed,) if deed in lot else () for deed in book.deeds()}


def clear_blocks(book):
    """The Blocks of a book."""
    ranks_from_start(book)
    if len(book.deeds()) > MOST_DEEDS:
        raise Refused("wide")
    lots = all_lots(book.deeds())[1:]
    # From the greatest lots on: a lot within a clear block is one, too.
    faces = []
    torn = {}
    for lot in reversed(lots):
        if not any([within(lot, face) for face, _ in faces]):
            verdict = court(book, view_of(book, lot))
            if isinstance(verdict, OwedTable):
                faces.append((lot, verdict))
            else:
                torn[lot] = verdict
    walls = []
    for lot in lots:
        if lot in torn and not any([within(wall, lot) for wall, _ in walls]):
            walls.append((lot, torn[lot]))
    return Blocks(tuple(reversed(faces)), tuple(walls))


def is_block(blocks, lot):
    """Whether a lot of deeds lies within some greatest clear block."""
    return any([within(lot, face) for face, _ in blocks.faces])


def check_blocks(book, value):
    """Whether any value is Blocks with just the greatest clear blocks and the least lots that are none."""
    ranks_from_start(book)
    if not isinstance(value, Blocks):
        return False
    faces = [lot for lot, _ in value.faces]
    walls = [lot for lot, _ in value.walls]
    if not are_lots(book, faces) or not are_lots(book, walls) or not are_all_lots(book, faces, walls):
        return False
    if not all([is_table_for(book, view_of(book, lot), table) for lot, table in value.faces]):
        return False
    return all([isinstance(two, TwoEndings) and two_if_short(book, view_of(book, lot), two) is True
                for lot, two in value.walls])


def are_lots(book, lots):
    """Whether some tuples are lots of deeds of the book, in order, none of them empty and none within another."""
    deeds = {deed: True for deed in book.deeds()}
    for lot in lots:
        if not lot or not all([deed in deeds for deed in lot]) or not is_lot(lot):
            return False
    if list(in_order(lots)) != lots:
        return False
    return not any([within(lot, other) for at, lot in enumerate(lots) for other in lots[at + 1:]])


def are_all_lots(book, faces, walls):
    """Whether each lot of deeds but the empty one either lies within a face or has a wall within it."""
    bits = {deed: 1 << at for at, deed in enumerate(book.deeds())}
    face_bits = [sum([bits[deed] for deed in lot]) for lot in faces]
    wall_bits = [sum([bits[deed] for deed in lot]) for lot in walls]
    for lot in range(1, 1 << len(bits)):
        inside = any([lot & ~face == 0 for face in face_bits])
        if inside == any([wall & ~lot == 0 for wall in wall_bits]):
            return False
    return True


def coarsest(book):
    """The ascending tuple of the dealings by which the book is clear, and by no coarser one."""
    blocks = clear_blocks(book)
    if not isinstance(judge(book, own_desks(book)), DealtTable):
        return ()
    # By own desks some ending has the fewest of each deed. Its parts are owed at any desks that have clear blocks.
    found = [parts for parts in partitions(blocks, book.deeds()) if not is_mergeable(blocks, parts)]
    return tuple(sorted([dealing_of(parts) for parts in found]))


def partitions(blocks, deeds):
    """All ways to divide a lot of deeds into clear blocks, as tuples of lots."""
    found = [()]
    for deed in deeds:
        found = [parts for before in found for parts in parts_with(before, deed)]
    return [parts for parts in found if all([is_block(blocks, lot) for lot in parts])]


def parts_with(parts, deed):
    """The tuples of lots with one deed more, in one of the lots or in a lot of its own."""
    found = [parts[:at] + (lot + (deed,),) + parts[at + 1:] for at, lot in enumerate(parts)]
    return found + [parts + ((deed,),)]


def is_mergeable(blocks, parts):
    """Whether two of some lots are a clear block together."""
    pairs = [(one, other) for at, one in enumerate(parts) for other in parts[at + 1:]]
    return any([is_block(blocks, tuple(sorted(one + other))) for one, other in pairs])
