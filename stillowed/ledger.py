"""The ledger of a run: which deeds are owed, when these debts were born, and when they were paid."""

from stillowed.errors import InvalidMove, InvalidNumber
from stillowed.kinds import is_number
from stillowed.moments import start_of
from stillowed.moving import fault_of, innermost, moment_behind
from stillowed.rows import first_fit
from stillowed.useful import ranks_from_start


def regret(table, moment, move):
    """By how many deeds a move makes the run longer than it needs to be."""
    useful = ranks_from_start(table.book)
    word = fault_of(table.book, useful, innermost(moment), move)
    if word is not None:
        raise InvalidMove(word)
    after = moment_behind(table.book, moment, move)
    return len(shown_row(table.book, table.view, moment, move)) + len(table.owed(after)) - len(table.owed(moment))


def shown_row(book, view, moment, move):
    """The row by the view of the deed of a move that is let, empty for other moves."""
    if move[0] != "do":
        return ()
    step = book.steps(moment[0][0])[move[1]]
    return view[step[2]]


class Ledger:
    """Follows one run from the start and keeps its debts."""

    def __init__(self, table):
        self.table = table
        self._useful = ranks_from_start(table.book)
        self._moment = start_of(table.book)
        self._done = 0
        self._deeds = []
        self._births = []
        self._payments = []
        self._needless = []
        # The debts owed now, by their places in the owed row.
        self._owed = [self._bear(deed) for deed in table.owed(self._moment)]

    def do(self, move):
        """Make any value that is a let move; return the debts born with it and those paid by it."""
        word = fault_of(self.table.book, self._useful, innermost(self._moment), move)
        if word is not None:
            raise InvalidMove(word)
        shown = shown_row(self.table.book, self.table.view, self._moment, move)
        self._moment = moment_behind(self.table.book, self._moment, move)
        self._done += 1
        return self._keep(shown, self.table.owed(self._moment))

    def _keep(self, shown, owed_row):
        """Book the debts into what has been shown and what is owed now."""
        before = tuple([self._deeds[number] for number in self._owed])
        fit = first_fit(before, shown + owed_row)
        fitted = {place: number for place, number in zip(fit, self._owed)}
        paid = []
        for place, deed in enumerate(shown):
            if place in fitted:
                self._payments[fitted[place]] = self._done
                paid.append(fitted[place])
            else:
                self._needless.append((self._done, deed))
        born = []
        self._owed = []
        for place, deed in enumerate(owed_row):
            number = fitted.get(len(shown) + place)
            if number is None:
                number = self._bear(deed)
                born.append(number)
            self._owed.append(number)
        return (tuple(born), tuple(paid))

    def _bear(self, deed):
        """Add a debt that is born now, and return its number."""
        self._deeds.append(deed)
        self._births.append(self._done)
        self._payments.append(None)
        return len(self._deeds) - 1

    def moment(self):
        """The present moment."""
        return self._moment

    def moves_done(self):
        """How many moves have been made."""
        return self._done

    def owed(self):
        """The pairs (number of the debt, deed) for the row owed now."""
        return tuple([(number, self._deeds[number]) for number in self._owed])

    def debts(self):
        """How many debts have been born."""
        return len(self._deeds)

    def history(self, number):
        """The triple (deed, birth, payment) of any value that is the number of a debt."""
        if not is_number(number) or number >= len(self._deeds):
            raise InvalidNumber("debt")
        return (self._deeds[number], self._births[number], self._payments[number])

    def needless(self):
        """The pairs (number of the move, deed) for the shown deeds that paid no debt."""
        return tuple(self._needless)

    def longest_wait(self):
        """The pair (wait, number) of the paid debt that waited longest, None if none is paid."""
        waits = [(self._payments[number] - self._births[number], -number)
                 for number in range(len(self._deeds)) if self._payments[number] is not None]
        if not waits:
            return None
        wait, turned = max(waits)
        return (wait, -turned)


def booked(table, run):
    """A new ledger after all moves of any value that is a run."""
    useful = ranks_from_start(table.book)
    if not isinstance(run, tuple):
        raise InvalidMove(-1)
    ledger = Ledger(table)
    for at, move in enumerate(run):
        if fault_of(table.book, useful, innermost(ledger.moment()), move) is not None:
            raise InvalidMove(at)
        ledger.do(move)
    return ledger
