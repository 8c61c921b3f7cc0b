"""Owed rows read from their ends, deed by deed, along all ways of sites at once."""

from stillowed.debts import opened_of


class OwedWords:
    """What is still to be read of owed rows of at most so many deeds.

    A spot (course, row) stands for a row that is to be read before the rows of the stages inside that course; the
    course "" is inside of the innermost stage. Sets of spots are the bits of an integer.
    """

    def __init__(self, table, longest):
        self.longest = longest
        self.opened = opened_of(table)
        self.rows = table.rows
        self.numbers = {}
        self.known = {}
        self.insides = {name: self.bits_inside(name) for name in self.opened}
        self.insides[""] = self.bit(("", ()))
        self.spots = list(self.numbers)
        self.within_reach = self.bits_within_reach(least_inside(table, self.opened))
        self.first = self.insides[table.book.main()] & self.within_reach[longest]

    def bit(self, spot):
        """The bit of a spot, which is given the next number if it has none; so are all later ones of its row."""
        if spot not in self.numbers:
            self.numbers[spot] = len(self.numbers)
            for many in reversed(range(1, len(spot[1]))):
                self.numbers.setdefault((spot[0], spot[1][:many]), len(self.numbers))
        return 1 << self.numbers[spot]

    def bits_inside(self, name):
        """The spots with which the reading goes on inside a course."""
        bits = 0
        seen = {}
        waiting = [name]
        while waiting:
            course = waiting.pop()
            if course in seen:
                continue
            seen[course] = True
            for stage in self.rows:
                if stage[0] == course and len(self.rows[stage]) <= self.longest:
                    bits |= self.bit(("", self.rows[stage]))
            for inner, rest in self.opened[course]:
                if not self.rows[rest]:
                    waiting.append(inner)
                elif len(self.rows[rest]) <= self.longest:
                    bits |= self.bit((inner, self.rows[rest]))
        return bits

    def bits_within_reach(self, least):
        """For each number of deeds the spots from which so few are enough."""
        found = [0] * (self.longest + 1)
        for at, spot in enumerate(self.spots):
            needed = len(spot[1]) + least[spot[0]]
            for size in range(needed, self.longest + 1):
                found[size] |= 1 << at
        return found

    def is_whole(self, bits):
        """Whether a row can begin here: nothing is left to be read."""
        return bits & self.insides[""] != 0

    def behind(self, bits, left):
        """The pairs of each deed that can stand before what is read and the spots behind it.

        At most so many deeds may be left then; there are no pairs if that is less than none.
        """
        if left < 0:
            return []
        if bits not in self.known:
            self.known[bits] = self.all_behind(bits)
        pairs = [(deed, spots & self.within_reach[left]) for deed, spots in self.known[bits]]
        return [pair for pair in pairs if pair[1]]

    def all_behind(self, bits):
        """As `behind`, however many deeds are left."""
        found = {}
        while bits:
            course, row = self.spots[(bits & -bits).bit_length() - 1]
            bits &= bits - 1
            if row:
                after = self.insides[course] if len(row) == 1 else 1 << self.numbers[(course, row[:-1])]
                found[row[-1]] = found.get(row[-1], 0) | after
        return sorted(found.items())


def least_inside(table, opened):
    """For each met course the fewest deeds that a moment owes whose last stage belongs to it; 0 for the course ""."""
    least = {name: min([len(table.rows[stage]) for stage in table.rows if stage[0] == name]) for name in opened}
    least[""] = 0
    for _ in opened:
        for name in opened:
            options = [len(table.rows[rest]) + least[inner] for inner, rest in opened[name]]
            least[name] = min([least[name]] + options)
    return least
