"""Faults of a book without some steps: two runs that show that no row is owed at a moment of both."""

from heapq import heappop, heappush

from stillowed.rows import within
from stillowed.steps import all_in, parts_of

# Costs are integers: moves, with a greater unit the steps that have a price, and with a still greater one deeds.
PRICED = 10 ** 9
DEED = 10 ** 18
AT_END = -1


class Step:
    """A step of a book: its name, the stage that it leaves, its parts, the row of its deed and the bit of its price."""

    def __init__(self, name, kind, stage, parts, row, bit):
        self.name = name
        self.move = (kind, name[1])
        self.stage = stage
        self.parts = parts
        self.row = row
        self.bit = bit
        self.quiet_cost = 1 + (PRICED if bit else 0)
        self.short_cost = self.quiet_cost + DEED * len(row)


class FoundFault:
    """Two runs, alike up to a place, the numbers that belong to them, the bits of their steps and of those barred."""

    def __init__(self, place, first, second, numbers, bits, bars):
        self.place = place
        self.first = first
        self.second = second
        self.numbers = numbers
        self.bits = bits
        self.bars = bars


class FaultFinder:
    """Finds faults of a book by a view, without steps that are told by the bits of those with a price."""

    def __init__(self, book, view, prices):
        self.book = book
        self.start = (book.main(), 0)
        self.names = sorted(prices)
        bits = {name: 1 << at for at, name in enumerate(self.names)}
        self.listed = []
        self.into = {stage: [] for stage in book.stages()}
        for course in book.names():
            for k, step in enumerate(book.steps(course)):
                row = view[step[2]] if step[1] == "do" else ()
                parts = parts_of(course, step)
                made = Step((course, k), step[1], (course, step[0]), parts, row, bits.get((course, k), 0))
                for part in {stage: True for stage in parts}:
                    self.into[part].append(len(self.listed))
                self.listed.append(made)

    def fault(self, bars, kept):
        """A FoundFault of the book without some steps that has few others with a price that are not kept.

        None if the book is clear; a lot of stages from which the start has no ending, if it has none.
        """
        short = self.settled(bars, False)
        if self.start not in short:
            return tuple([stage for stage in self.book.stages() if stage not in short])
        ways = Ways(self, bars, short, self.settled(bars, True))
        found = []
        for stage in ways.arrivals:
            for number in self.leaving(bars, stage):
                step = self.listed[number]
                if all_in(step.parts, short) and not within(ways.rows[stage], ways.brought(step)):
                    bits = ways.bits_of(stage, step)
                    found.append((bit_count(bits & ~kept), number, bits))
        if not found:
            return None
        _, number, bits = min(found)
        return ways.fault(self.listed[number], bits)

    def leaving(self, bars, stage):
        """The numbers of the steps that leave a stage and are not barred."""
        return [number for number, step in enumerate(self.listed) if step.stage == stage and not step.bit & bars]

    def settled(self, bars, quiet):
        """For each useful stage (least cost, number of the first step of a way that has it), in the order of costs."""
        found = {}
        queue = []
        for stage in self.book.stages():
            if self.book.is_end(stage):
                heappush(queue, (1, stage, AT_END))
        while queue:
            cost, stage, number = heappop(queue)
            if stage in found:
                continue
            found[stage] = (cost, number)
            for user in self.into[stage]:
                step = self.listed[user]
                if step.stage not in found and not step.bit & bars and all_in(step.parts, found):
                    base = step.quiet_cost if quiet else step.short_cost
                    heappush(queue, (base + sum([found[part][0] for part in step.parts]), step.stage, user))
        return found


class Ways:
    """What a fault is made of: shortest endings, and moves with few priced steps that lead to a stage and end a run."""

    def __init__(self, finder, bars, short, quiet):
        self.finder = finder
        self.bars = bars
        self.short = short
        self.quiet = quiet
        self.rows = {}
        self.short_bits = self.bits_along(short)
        self.quiet_bits = self.bits_along(quiet)
        for stage in short:
            self.rows[stage] = () if short[stage][1] == AT_END else self.brought(finder.listed[short[stage][1]])
        # For each met stage the bits of the moves to it and from the rests to the end, and the arrival: (stage before,
        # step, rests put down).
        self.arrivals = self.arrivals_of()

    def brought(self, step):
        """The row of a step's deed and the rows of its parts."""
        row = step.row
        for part in step.parts:
            row = row + self.rows[part]
        return row

    def bits_along(self, table):
        """For each stage the bits of the steps along its way."""
        bits = {}
        for stage in table:
            bits[stage] = 0
            if table[stage][1] != AT_END:
                step = self.finder.listed[table[stage][1]]
                bits[stage] = step.bit
                for part in step.parts:
                    bits[stage] |= bits[part]
        return bits

    def arrivals_of(self):
        """The arrivals at all met stages, by few priced steps."""
        found = {}
        queue = [(0, self.finder.start, 0, ())]
        while queue:
            cost, stage, bits, arrival = heappop(queue)
            if stage in found:
                continue
            found[stage] = (bits, arrival)
            for number in self.finder.leaving(self.bars, stage):
                step = self.finder.listed[number]
                if not all_in(step.parts, self.short):
                    continue
                first = step.parts[0]
                rests = step.parts[1:]
                behind = sum([self.quiet[rest][0] for rest in rests])
                bits_behind = bits | step.bit | (self.quiet_bits[rests[0]] if rests else 0)
                heappush(queue, (cost + step.quiet_cost + behind, first, bits_behind, (stage, number, rests)))
                if rests:
                    passed = cost + step.quiet_cost + self.quiet[first][0]
                    heappush(queue, (passed, rests[0], bits | step.bit | self.quiet_bits[first], (stage, number, ())))
        return found

    def bits_of(self, stage, step):
        """The bits of the two runs that part at a stage, one of them by a step."""
        bits = self.arrivals[stage][0] | self.short_bits[stage] | step.bit
        for part in step.parts:
            bits |= self.short_bits[part]
        return bits

    def fault(self, step, bits):
        """The fault of the two runs that part at the stage that a step leaves."""
        moves = []
        rests = []
        for passed, number, put in self.legs_to(step.stage):
            moves.append(self.finder.listed[number].move)
            if passed is not None:
                moves.extend(self.finish(self.quiet, passed))
            rests = list(put) + rests
        last = [move for rest in rests for move in self.finish(self.quiet, rest)]
        one = self.finish(self.short, step.stage)
        other = [step.move] + [move for part in step.parts for move in self.finish(self.short, part)]
        numbers = {stage: self.short[stage][0] // DEED for stage in sorted(self.short)}
        return FoundFault(len(moves), tuple(moves + one + last), tuple(moves + other + last), numbers, bits, self.bars)

    def legs_to(self, stage):
        """The tuples (first stage of a call that is passed or None, step, rests put down) that lead to a met stage."""
        legs = []
        while self.arrivals[stage][1]:
            before, number, rests = self.arrivals[stage][1]
            parts = self.finder.listed[number].parts
            legs.append((parts[0] if len(parts) == 2 and not rests else None, number, rests))
            stage = before
        return list(reversed(legs))

    def finish(self, table, stage):
        """The moves along ways until the course of a stage has been left."""
        moves = []
        opened = [stage]
        while opened:
            number = table[opened.pop()][1]
            if number == AT_END:
                moves.append(("leave",))
            else:
                step = self.finder.listed[number]
                moves.append(step.move)
                opened.extend(step.parts[::-1])
        return moves


def bit_count(bits):
    """How many bits of a number are set."""
    many = 0
    while bits:
        bits &= bits - 1
        many += 1
    return many
