"""Dealings: which desk does which deed."""

from stillowed.errors import InvalidDealing, InvalidRow
from stillowed.kinds import is_name
from stillowed.rows import within


def check_dealing(book, dealing):
    """Raise InvalidDealing if any value is no dealing of the book."""
    if not isinstance(dealing, tuple):
        raise InvalidDealing(-1)
    deeds = book.deeds()
    for at, pair in enumerate(dealing):
        if at >= len(deeds) or not is_pair_of(pair, deeds[at]):
            raise InvalidDealing(at)
    if len(dealing) < len(deeds):
        raise InvalidDealing(len(dealing))


def is_pair_of(value, deed):
    """Whether any value is a pair of this deed and a name."""
    if not isinstance(value, tuple) or len(value) != 2:
        return False
    return is_name(value[0]) and value[0] == deed and is_name(value[1])


def one_desk(book, *, desk="one"):
    """The dealing that gives all deeds to one desk."""
    return tuple([(deed, desk) for deed in book.deeds()])


def own_desks(book):
    """The dealing that gives each deed to a desk of its own name."""
    return tuple([(deed, deed) for deed in book.deeds()])


def desks_of(dealing):
    """The lot of the desks."""
    return tuple(sorted({desk: True for _, desk in dealing}))


def deeds_at(dealing, desk):
    """The lot of the deeds of a desk."""
    return tuple([deed for deed, place in dealing if place == desk])


def desk_of(dealing, deed):
    """The desk of a deed, None if the dealing does not have the deed."""
    return desks_by_deed(dealing).get(deed)


def desks_by_deed(dealing):
    """The dealing as a dict."""
    return {deed: desk for deed, desk in dealing}


def check_deeds(desks, row):
    """Raise InvalidRow for the first deed of a row that a dealing, told as a dict, does not have."""
    for at, deed in enumerate(row):
        if deed not in desks:
            raise InvalidRow(at)


def part(dealing, desk, row):
    """The row of the deeds of a row that have this desk."""
    desks = desks_by_deed(dealing)
    check_deeds(desks, row)
    return tuple([deed for deed in row if desks[deed] == desk])


def parts(dealing, row):
    """The ascending tuple of pairs of each desk and its part of a row."""
    desks = desks_by_deed(dealing)
    check_deeds(desks, row)
    found = {desk: [] for desk in desks_of(dealing)}
    for deed in row:
        found[desks[deed]].append(deed)
    return tuple([(desk, tuple(found[desk])) for desk in found])


def within_by(dealing, u, v):
    """Whether at every desk the part of `u` lies within that of `v`."""
    pairs = parts(dealing, u)
    others = parts(dealing, v)
    return all([within(pairs[at][1], others[at][1]) for at in range(len(pairs))])


def same_by(dealing, u, v):
    """Whether at every desk the parts of `u` and `v` are equal."""
    pairs = parts(dealing, u)
    return pairs == parts(dealing, v)


def view_at(dealing, desk):
    """The view by which the deeds of a desk stand for themselves and others for the empty row."""
    return {deed: (deed,) if place == desk else () for deed, place in dealing}


def blocks_of(dealing):
    """The lots of deeds of the desks, ascending."""
    return tuple(sorted([deeds_at(dealing, desk) for desk in desks_of(dealing)]))


def dealing_of(blocks):
    """The dealing with a desk for each of some lots of deeds, named like its first deed."""
    return tuple(sorted([(deed, block[0]) for block in blocks for deed in block]))


def check_same_deeds(one, other):
    """Raise InvalidDealing at the first place where the deeds of two dealings differ."""
    for at in range(max(len(one), len(other))):
        if [deed for deed, _ in one[at:at + 1]] != [deed for deed, _ in other[at:at + 1]]:
            raise InvalidDealing(at)


def is_finer(one, other):
    """Whether any two deeds at one desk of `one` are at one desk of `other`, too."""
    check_same_deeds(one, other)
    return len({pair: True for pair in desk_pairs(one, other)}) == len(desks_of(one))


def desk_pairs(one, other):
    """For each deed the pair of its desks in two dealings of the same deeds."""
    return [(one[at][1], other[at][1]) for at in range(len(one))]


def common_finer(one, other):
    """The coarsest dealing that is finer than both, each desk named like its first deed."""
    check_same_deeds(one, other)
    firsts = {}
    found = []
    for at, pair in enumerate(desk_pairs(one, other)):
        deed = one[at][0]
        found.append((deed, firsts.setdefault(pair, deed)))
    return tuple(found)
