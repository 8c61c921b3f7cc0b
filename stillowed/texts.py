"""Texts of courses, and the books that courses describe."""

from stillowed.books import MOST_STAGES, Book
from stillowed.errors import InvalidText
from stillowed.expressions import marks_in, normal
from stillowed.kinds import LONGEST_NAME, is_letter

DEEPEST = 12
CLOSING = {"[": "]", "{": "}", "<": ">"}
WORDS = {"[": "maybe", "{": "again"}


def read_courses(text):
    """The courses, in normal form, of any value that is a text of them."""
    if not isinstance(text, str):
        raise InvalidText(-1)
    return Reader(text).all_courses()


class Reader:
    """Reads a text sign by sign, and stops at the first sign with which no text goes on."""

    def __init__(self, text):
        self.text = text
        self.at = 0

    def sign(self):
        """The sign at the present place, empty at the end."""
        return self.text[self.at:self.at + 1]

    def skip_blanks(self):
        """Go on to what is no blank."""
        while self.sign() == " ":
            self.at += 1

    def take(self, sign):
        """Go on behind a sign, which must be there."""
        self.skip_blanks()
        if self.sign() != sign:
            raise InvalidText(self.at)
        self.at += 1

    def name(self):
        """Go on behind a name, which must be there, and return it."""
        self.skip_blanks()
        begun = self.at
        while is_letter(self.sign()):
            if self.at - begun == LONGEST_NAME:
                raise InvalidText(self.at)
            self.at += 1
        if self.at == begun:
            raise InvalidText(self.at)
        return self.text[begun:self.at]

    def all_courses(self):
        """Read the whole text."""
        found = [self.one_course()]
        while self.at < len(self.text):
            self.take("\n")
            found.append(self.one_course())
        return tuple(found)

    def one_course(self):
        """Read a course."""
        name = self.name()
        self.take(":")
        return (name, normal(self.either(0)))

    def either(self, depth):
        """Read an expression within so many brackets."""
        parts = [self.sequence(depth)]
        while self.sign() == "|":
            self.at += 1
            parts.append(self.sequence(depth))
        return parts[0] if len(parts) == 1 else ("either", tuple(parts))

    def sequence(self, depth):
        """Read parts that stand one behind another, and the blanks behind them."""
        parts = [self.part(depth)]
        self.skip_blanks()
        while self.begins_part():
            parts.append(self.part(depth))
            self.skip_blanks()
        return parts[0] if len(parts) == 1 else ("seq", tuple(parts))

    def begins_part(self):
        """Whether a part begins at the present place."""
        sign = self.sign()
        return is_letter(sign) or sign in CLOSING or sign in ("-", "(")

    def part(self, depth):
        """Read a deed, a call, nothing or what stands in brackets."""
        self.skip_blanks()
        sign = self.sign()
        if sign in CLOSING:
            return self.bracket(sign, depth)
        if sign == "-":
            self.at += 1
            return ("nothing",)
        if sign == "(":
            self.at += 1
            name = self.name()
            self.take(")")
            return ("call", name)
        return ("deed", self.name())

    def bracket(self, sign, depth):
        """Read what stands in brackets that begin with this sign."""
        if depth == DEEPEST:
            raise InvalidText(self.at)
        self.at += 1
        inner = self.either(depth + 1)
        self.take(CLOSING[sign])
        return (WORDS[sign], inner) if sign in WORDS else inner


def show_courses(courses):
    """The text of the normal forms of some courses."""
    return "\n".join([name + ": " + written(normal(expression)) for name, expression in courses])


def written(expression):
    """The text of an expression in normal form."""
    word = expression[0]
    if word == "deed":
        return expression[1]
    if word == "call":
        return "(" + expression[1] + ")"
    if word == "nothing":
        return "-"
    if word == "maybe":
        return "[" + written(expression[1]) + "]"
    if word == "again":
        return "{" + written(expression[1]) + "}"
    if word == "either":
        return " | ".join([written(part) for part in expression[1]])
    return " ".join([written_in_seq(part) for part in expression[1]])


def written_in_seq(part):
    """The text of a part of a seq."""
    return "<" + written(part) + ">" if part[0] == "either" else written(part)


def book_of(courses):
    """The book of some courses, with a stage for each deed or call that is written in them."""
    return Book(tuple([course_of(name, expression) for name, expression in courses]))


def course_of(name, expression):
    """The course (name, stages, ends, steps) of an expression."""
    many = marks_in(expression)
    if many >= MOST_STAGES:
        # Such a course is wrong whatever its steps are, and these may be very many.
        return (name, many + 1, (), ())
    marks = Marks()
    whole = marks.put(expression)
    ends = sorted(whole[2] + ([0] if whole[0] else []))
    marks.link([0], whole[1])
    return (name, many + 1, tuple(ends), marks.steps())


class Marks:
    """The deeds and calls written in an expression, numbered from 1 on, and which can stand behind which.

    Of an expression the triple (has the empty line, marks that begin a line, marks that end one) is told.
    """

    def __init__(self):
        self.marks = []
        self.behind = {}

    def put(self, expression):
        """Put the marks of an expression, and return its triple."""
        word = expression[0]
        if word == "nothing":
            return (True, [], [])
        if word in ("deed", "call"):
            self.marks.append(("do" if word == "deed" else "call", expression[1]))
            return (False, [len(self.marks)], [len(self.marks)])
        if word in ("maybe", "again"):
            _, firsts, lasts = self.put(expression[1])
            if word == "again":
                self.link(lasts, firsts)
            return (True, firsts, lasts)
        whole = self.put(expression[1][0])
        for part in expression[1][1:]:
            told = self.put(part)
            whole = self.chained(whole, told) if word == "seq" else chosen(whole, told)
        return whole

    def link(self, befores, afters):
        """Let each of some marks stand behind each of some others."""
        for before in befores:
            for after in afters:
                self.behind[(before, after)] = True

    def chained(self, one, other):
        """The triple of one expression behind another one."""
        self.link(one[2], other[1])
        firsts = one[1] + other[1] if one[0] else one[1]
        lasts = one[2] + other[2] if other[0] else other[2]
        return (one[0] and other[0], firsts, lasts)

    def steps(self):
        """The steps of the course, ascending by the stages from which and to which they lead."""
        found = []
        for before, after in sorted(self.behind):
            kind, name = self.marks[after - 1]
            found.append((before, kind, name, after))
        return tuple(found)


def chosen(one, other):
    """The triple of a choice between two expressions."""
    return (one[0] or other[0], one[1] + other[1], one[2] + other[2])
