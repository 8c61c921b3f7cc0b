"""Two books compared: whether they owe the same rows wherever both can be."""

from stillowed.kinds import copied
from stillowed.pairs import Shared


class Alike:
    """For each course that shared moves reach, what its rows leave over: the same is owed everywhere."""

    def __init__(self, leftovers):
        self.leftovers = copied(leftovers)


class Parted:
    """A shared moment, and the unlike rows that are owed there in the one book and in the other one."""

    def __init__(self, pile, one, other):
        self.pile = pile
        self.one = one
        self.other = other


def compare(one, other):
    """Whether two tables owe the same row at every moment that their books share."""
    return Comparison(one, other).answer()


class Comparison:
    """Goes from the main course inwards, with what the rows owed behind each course leave over."""

    def __init__(self, one, other):
        self.one = one
        self.other = other
        self.shared = Shared(one.book, other.book)
        self.leftovers = {}
        # For each course some stages to which shared moves lead, and behind which it is run.
        self.rests = {}

    def answer(self):
        """The Alike or Parted of the two tables."""
        main = self.one.book.main()
        parted = None
        if main in self.shared.lots:
            parted = self.follow(main)
        return Alike({name: self.leftovers[name] for name in self.shared.lots}) if parted is None else parted

    def follow(self, main):
        """Find the leftovers from the main course on; the first Parted that shows itself, None if none does."""
        self.leftovers[main] = ((), ())
        self.rests[main] = ()
        entrances = self.shared.entrances()
        courses = [main]
        while courses:
            course = courses.pop()
            for number in self.shared.lots[course]:
                if self.is_parted(((course, number),) + self.rests[course]):
                    return self.parted(((course, number),) + self.rests[course])
            for calling, called, rest in entrances:
                if calling == course:
                    rests = (rest,) + self.rests[course]
                    leftover = self.leftover_behind(course, rest)
                    if called not in self.rests:
                        self.rests[called] = rests
                        self.leftovers[called] = leftover
                        courses.append(called)
                    # Two leftovers of one course do not both make the rows of its first stage equal.
                    if leftover is None or leftover != self.leftovers[called]:
                        return self.first_parted(called, (rests, self.rests[called]))
        return None

    def leftover_behind(self, course, rest):
        """What the rows behind a call leave over that goes on at a stage, None if neither is the end of the other."""
        p, q = self.leftovers[course]
        u = self.one.rows[rest] + p
        v = self.other.rows[rest] + q
        if u[len(u) - len(v):] == v:
            return (u[:len(u) - len(v)], ())
        if v[len(v) - len(u):] == u:
            return ((), v[:len(v) - len(u)])
        return None

    def is_parted(self, pile):
        """Whether unlike rows are owed at a moment."""
        return self.one.owed(pile) != self.other.owed(pile)

    def parted(self, pile):
        """The Parted of a moment."""
        return Parted(pile, self.one.owed(pile), self.other.owed(pile))

    def first_parted(self, course, many_rests):
        """The Parted of the first stage of a course before the first rests at which it shows itself."""
        piles = [((course, 0),) + rests for rests in many_rests]
        return self.parted([pile for pile in piles if self.is_parted(pile)][0])


def check_compared(one, other, value):
    """Whether any value is the Alike of two tables, or a Parted of them."""
    comparison = Comparison(one, other)
    if isinstance(value, Alike):
        answer = comparison.answer()
        return isinstance(answer, Alike) and value.leftovers == answer.leftovers
    if not isinstance(value, Parted) or not comparison.shared.has(value.pile):
        return False
    rows = (one.owed(value.pile), other.owed(value.pile))
    return rows[0] != rows[1] and (value.one, value.other) == rows
