"""Books whose deeds are replaced, by rows or by courses."""

from stillowed.books import MOST_COURSES, MOST_DEEDS, MOST_STAGES, MOST_STAGES_TOGETHER, Book, deeds_in
from stillowed.errors import NoEnding, Refused
from stillowed.lengths import plain
from stillowed.single import owed_at
from stillowed.useful import ranks

MOST_STEPS = 120
LETTERS = "abcdefghijklmnopqrstuvwxyz"


def checked_book(courses):
    """The book of some courses; raises Refused("wide") if it is beyond the limits of books."""
    stages = [course[1] for course in courses]
    steps = sum([len(course[3]) for course in courses])
    if len(courses) > MOST_COURSES or max(stages) > MOST_STAGES or sum(stages) > MOST_STAGES_TOGETHER:
        raise Refused("wide")
    if steps > MOST_STEPS or len(deeds_in(courses)) > MOST_DEEDS:
        raise Refused("wide")
    return Book(tuple(courses))


def made_book(book, making):
    """The book with a line of steps by the row of its deed in the place of each step that does one."""
    names = {name: True for name in book.names()}
    still = [letter for letter in LETTERS if letter not in names][0]
    courses = [made_course(course, making, still) for course in book.courses]
    if any([step[1] == "call" and step[2] == still for course in courses for step in course[3]]):
        courses.append((still, 1, (0,), ()))
    return checked_book(courses)


def made_course(course, making, still):
    """A course with its steps replaced; `still` is the course that stands for an empty row."""
    name, stages, ends, steps = course
    found = {}
    for number, kind, word, onto in steps:
        if kind == "call":
            found[(number, kind, word, onto)] = True
        elif not making[word]:
            found[(number, "call", still, onto)] = True
        else:
            row = making[word]
            line = [number] + list(range(stages, stages + len(row) - 1)) + [onto]
            stages += len(row) - 1
            for at, deed in enumerate(row):
                found[(line[at], "do", deed, line[at + 1])] = True
    return (name, stages, ends, tuple(found))


def check_parts(parts):
    """Raise NoEnding for the first part that cannot end."""
    for _, part in parts:
        first = (part.main(), 0)
        if first not in ranks(part):
            raise NoEnding(first)


def put_books(book, parts):
    """The book with calls of the main courses of some books in the place of the steps by their deeds."""
    check_parts(parts)
    mains = {deed: part.main() for deed, part in parts}
    courses = [course[:3] + (tuple([put_step(step, mains) for step in course[3]]),) for course in book.courses]
    for _, part in parts:
        courses.extend(part.courses)
    if len({course[0]: True for course in courses}) < len(courses):
        raise Refused("names")
    return checked_book(courses)


def put_step(step, mains):
    """A step, with a call in its place if its deed is one of those that are replaced."""
    number, kind, word, onto = step
    if kind == "do" and word in mains:
        return (number, "call", mains[word], onto)
    return step


def part_view(book, parts):
    """The view with the row owed at the start of its part for each deed that is replaced."""
    check_parts(parts)
    view = plain(book)
    for deed, part in parts:
        row = owed_at(part, plain(part), ((part.main(), 0),))
        if row is None:
            raise Refused("torn")
        view[deed] = row
    return view
