"""Claims: what the checks of the package can be asked, gathered for a book, and what follows from them."""

from stillowed.bars import NoCheaper, check_no_cheaper
from stillowed.bookings import check_booking
from stillowed.books import Book
from stillowed.coarse import check_blocks
from stillowed.compared import check_compared
from stillowed.debts import check_heights, check_ring
from stillowed.depths import check_slope
from stillowed.desks import check_verdict
from stillowed.givings import check_giving
from stillowed.kinds import copied
from stillowed.lengths import check_lengths, lengths, ways
from stillowed.loads import check_loads
from stillowed.makers import check_lists
from stillowed.met import check_met, met
from stillowed.owed import OwedTable, TwoEndings, court
from stillowed.papers import check_table, check_two
from stillowed.trails import check_trail
from stillowed.useful import check_ranks, check_useless, ranks, useless
from stillowed.verdicts import DealtTable
from stillowed.weaves import check_weaves
from stillowed.woven import check_weave


def checks():
    """A dict from each word to the pair of its function and the kinds of its arguments."""
    return {
        "alike": (check_compared, ("owed", "owed", "any")),
        "bars": (check_no_cheaper, ("bars",)),
        "blocks": (check_blocks, ("book", "any")),
        "booking": (check_booking, ("owed", "any", "any")),
        "free": (check_weaves, ("dealt", "any")),
        "giving": (check_giving, ("book", "dict", "dict")),
        "heights": (check_heights, ("owed", "any", "any")),
        "lengths": (check_lengths, ("book", "dict", "dict", "dict")),
        "lists": (check_lists, ("book", "dict", "dict", "dict")),
        "loads": (check_loads, ("owed", "tuple", "any")),
        "met": (check_met, ("book", "dict")),
        "ranks": (check_ranks, ("book", "dict")),
        "ring": (check_ring, ("owed", "any", "any")),
        "slope": (check_slope, ("owed", "any", "any", "any", "any", "any")),
        "table": (check_table, ("owed",)),
        "trail": (check_trail, ("book", "tuple", "any")),
        "two": (check_two, ("book", "dict", "two")),
        "useless": (check_useless, ("book", "tuple")),
        "verdict": (check_verdict, ("book", "any", "any")),
        "weave": (check_weave, ("dealt", "dealt", "any")),
    }


def is_of_kind(value, kind):
    """Whether any value is of a kind of arguments."""
    if kind == "book":
        return isinstance(value, Book)
    if kind == "owed":
        return isinstance(value, OwedTable)
    if kind == "dealt":
        return isinstance(value, DealtTable)
    if kind == "two":
        return isinstance(value, TwoEndings)
    if kind == "bars":
        return isinstance(value, NoCheaper)
    if kind == "dict":
        return isinstance(value, dict)
    return kind == "any" or isinstance(value, tuple)


def words():
    """The words of claims, ascending."""
    return tuple(sorted(checks()))


def has_form(claim):
    """Whether any value is a tuple of a word and as many arguments, of the right kinds, as its function takes."""
    known = checks()
    if not isinstance(claim, tuple) or not claim or not isinstance(claim[0], str) or claim[0] not in known:
        return False
    kinds = known[claim[0]][1]
    return len(claim) == 1 + len(kinds) and all([is_of_kind(value, kind) for value, kind in zip(claim[1:], kinds)])


def check(claim):
    """Whether any value is a claim that holds."""
    if not has_form(claim):
        return False
    function = checks()[claim[0]][0]
    told = claim[1:]
    return function(*told)


def gather(book, view):
    """A tuple of claims of a book and a view that hold, and that tell whether the book is dead, clear or torn."""
    useful = ranks(book)
    if (book.main(), 0) not in useful:
        return (("useless", book, useless(book)),)
    verdict = court(book, view)
    last = ("table", verdict) if isinstance(verdict, OwedTable) else ("two", book, copied(view), verdict)
    return (("ranks", book, useful), ("met", book, met(book)),
            ("lengths", book, copied(view), lengths(book, view), ways(book, view)), last)


def concluded(book, view, claims):
    """What the first of some claims, any values, that decides it tells of a book and a view, None if none does."""
    for claim in claims:
        word = conclusion(book, view, claim)
        if word is not None and check(claim):
            return word
    return None


def conclusion(book, view, claim):
    """What any value tells of a book and a view, if it is a claim that holds; None if it tells nothing."""
    if not has_form(claim):
        return None
    if claim[0] == "useless" and claim[1] == book and all([book.is_stage(stage) for stage in claim[2]]):
        return "dead" if (book.main(), 0) in claim[2] else None
    if claim[0] == "table" and claim[1].book == book and is_same_view(book, view, claim[1].view):
        return "clear"
    if claim[0] == "two" and claim[1] == book and is_same_view(book, view, claim[2]):
        return "torn"
    return None


def is_same_view(book, view, other):
    """Whether two views show the deeds of a book alike."""
    return all([deed in other and other[deed] == view[deed] for deed in book.deeds()])
