"""Endings of stages, listed in order."""

from stillowed.errors import InvalidNumber, Refused
from stillowed.kinds import is_number_to
from stillowed.lengths import lengths, plain
from stillowed.steps import all_in, parts_of, steps_into, steps_out

MOST_SIZE = 8
MOST_LISTED = 2000
MOST_NUMBER = 200
LONGEST_NUMBERED = 12
LONGEST_ROW = 40


def endings(book, stage, size):
    """The lot of all endings of a stage with at most `size` deeds."""
    if not is_number_to(size, MOST_SIZE):
        raise InvalidNumber("size")
    found = first_endings(book, stage, size, MOST_LISTED + 1)
    if len(found) > MOST_LISTED:
        raise Refused("wide")
    return tuple(found)


def nth_ending(book, stage, n):
    """The ending number `n` of a stage among those with at most 12 deeds, None if there is none."""
    if not is_number_to(n, MOST_NUMBER):
        raise InvalidNumber("n")
    found = first_endings(book, stage, LONGEST_NUMBERED, n + 1)
    return found[n] if len(found) > n else None


def first_endings(book, stage, size, many):
    """The list of the first so many endings of a stage with at most `size` deeds."""
    least = lengths(book, plain(book))
    if stage not in least:
        return []
    found = []
    # Each length is tried anew: what the other stages need grows with it, and it may soon be enough.
    for length in range(least[stage], size + 1):
        layers = EndingLayers(book, least, stage, length, many)
        found = layers.listed(stage)
        if len(found) >= many:
            return found[:many]
    return found


class EndingLayers:
    """The first endings of each length, of a stage and of all stages that it needs."""

    def __init__(self, book, least, stage, size, many):
        self.book = book
        self.least = least
        self.many = many
        self.longest = needed_lengths(book, least, stage, size)
        self.layers = {one: [] for one in self.longest}
        for length in range(size + 1):
            self.add_layer(length)

    def add_layer(self, length):
        """Find the endings with so many deeds; those with fewer are known."""
        pools = {}
        links = []
        for stage in self.longest:
            if self.longest[stage] >= length:
                pools[stage] = {row: True for row in self.rows_made(stage, length)}
                links.extend([(stage, part) for part in self.equal_parts(stage) if self.reaches(part, length)])
        spread(pools, links)
        for stage in pools:
            self.layers[stage].append(sorted(pools[stage])[:self.many])

    def reaches(self, stage, length):
        """Whether endings of a stage with so many deeds are needed."""
        return self.longest.get(stage, -1) >= length

    def rows_made(self, stage, length):
        """The rows of so many deeds that the steps from a stage make out of shorter ones."""
        if length == 0:
            return [()] if self.least[stage] == 0 else []
        rows = []
        steps = self.book.steps(stage[0])
        for k, parts in steps_out(self.book, stage):
            if not all_in(parts, self.least):
                continue
            if len(parts) == 2:
                rows.extend(self.rows_joined(parts, length))
            elif self.reaches(parts[0], length - 1):
                rows.extend([(steps[k][2],) + row for row in self.layers[parts[0]][length - 1]])
        return rows

    def rows_joined(self, parts, length):
        """The rows of so many deeds made of one row of each of two parts, neither of them empty."""
        inner, outer = parts
        rows = []
        for taken in range(max(1, self.least[inner]), length - max(1, self.least[outer]) + 1):
            rows.extend(products(self.layers[inner][taken], self.layers[outer][length - taken], self.many))
        return rows

    def equal_parts(self, stage):
        """The parts all of whose endings are endings of the stage, since the other part has the empty one."""
        found = []
        for _, parts in steps_out(self.book, stage):
            if len(parts) == 2 and all_in(parts, self.least):
                if self.least[parts[1]] == 0:
                    found.append(parts[0])
                if self.least[parts[0]] == 0:
                    found.append(parts[1])
        return found

    def listed(self, stage):
        """All endings found for a stage, in order."""
        return [row for layer in self.layers[stage] for row in layer]


def needed_lengths(book, least, stage, size):
    """For each stage that occurs in endings of so many deeds: how many of them it can have."""
    longest = {stage: size}
    waiting = [stage]
    while waiting:
        one = waiting.pop()
        for _, parts in steps_out(book, one):
            if not all_in(parts, least):
                continue
            shorter = 1 if len(parts) == 1 else 0
            total = shorter + sum([least[part] for part in parts])
            for part in parts:
                room = longest[one] - total + least[part]
                if room >= least[part] and room > longest.get(part, -1):
                    longest[part] = room
                    waiting.append(part)
    return longest


def products(firsts, seconds, many):
    """The first so many rows made of a row of each of two ordered lists with rows of one length each."""
    rows = []
    for first in firsts:
        for second in seconds:
            rows.append(first + second)
        if len(rows) >= many:
            return rows[:many]
    return rows


def spread(pools, links):
    """Add to the pool of each stage what its links lead to, until nothing is new."""
    users = {}
    for stage, part in links:
        users.setdefault(part, []).append(stage)
    waiting = list(users)
    while waiting:
        part = waiting.pop()
        for stage in users.get(part, ()):
            if stage != part and put_all(pools[stage], pools[part]):
                waiting.append(stage)


def put_all(rows, others):
    """Add the keys of one dict to another one, and return whether any was new."""
    size = len(rows)
    for row in others:
        rows[row] = True
    return len(rows) > size


def has_ending(book, stage, row):
    """Whether the row is an ending of the stage."""
    if len(row) > LONGEST_ROW:
        raise Refused("long")
    return (stage_ends(book, row)[stage][0] >> len(row)) & 1 == 1


def stage_ends(book, row):
    """For each stage, for each place of the row: the bits of the places to which endings lead from there."""
    found = {stage: [0] * (len(row) + 1) for stage in book.stages()}
    into = steps_into(book)
    callers = {stage: [user for user, step, _ in into[stage] if step[1] == "call"] for stage in into}
    for place in reversed(range(len(row) + 1)):
        waiting = list(book.stages())
        while waiting:
            stage = waiting.pop()
            bits = bits_at(book, row, found, stage, place)
            if bits != found[stage][place]:
                found[stage][place] = bits
                waiting.extend(callers[stage])
    return found


def bits_at(book, row, found, stage, place):
    """The bits of the places to which endings of a stage lead from a place, as far as is found."""
    bits = 1 << place if book.is_end(stage) else 0
    for k in book.steps_from(stage):
        step = book.steps(stage[0])[k]
        parts = parts_of(stage[0], step)
        if step[1] == "call":
            bits |= bits_behind(found[parts[0]][place], found[parts[1]])
        elif place < len(row) and row[place] == step[2]:
            bits |= found[parts[0]][place + 1]
    return bits


def bits_behind(bits, table):
    """The bits of the places in the table at all places whose bits are set."""
    reached = 0
    place = 0
    while bits:
        if bits & 1:
            reached |= table[place]
        bits >>= 1
        place += 1
    return reached
