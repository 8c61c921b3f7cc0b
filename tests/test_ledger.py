"""[33], [34], [35]: regrets and the ledger."""

import random
import time
import unittest

import brute
from samples import NEST, ORDER, call, course, do, one_course
from tables import clear_tables
from stillowed.books import Book
from stillowed.errors import InvalidMove, InvalidNumber
from stillowed.ledger import Ledger, booked, regret
from stillowed.lengths import plain
from stillowed.moments import moves, run_moments, start
from stillowed.owed import court

RUN = (("do", 0), ("call", 1), ("do", 1), ("do", 2), ("leave",), ("do", 2), ("leave",))


def shown(table, moment, move):
    deeds = brute.deed_of(table.book, moment, move)
    return table.view[deeds[0]] if deeds else ()


def random_run(rng, book, most):
    good = brute.useful(book)
    moment = start(book)
    run = []
    while moment and len(run) < most and len(moment) < 20:
        move = rng.choice(brute.let(book, good, moment))
        run.append(move)
        moment = brute.behind(book, moment, move)
    return tuple(run)


class BookByHand:
    """The words of [34], slowly."""

    def __init__(self, table, run):
        self.born, self.paid, self.needless, self.answers = {}, {}, [], []
        moment = start(table.book)
        self.row = [(n, deed) for n, deed in enumerate(table.owed(moment))]
        self.names = dict(self.row)
        self.born = {n: 0 for n in self.names}
        for number, move in enumerate(run, 1):
            after = brute.behind(table.book, moment, move)
            word = shown(table, moment, move)
            target = word + table.owed(after)
            place, fit = 0, {}
            for n, deed in self.row:
                while target[place] != deed:
                    place += 1
                fit[place] = n
                place += 1
            paid = [fit[p] for p in range(len(word)) if p in fit]
            self.needless += [(number, word[p]) for p in range(len(word)) if p not in fit]
            self.paid.update({n: number for n in paid})
            born, row = [], []
            for p in range(len(word), len(target)):
                if p not in fit:
                    fit[p] = len(self.names)
                    self.names[fit[p]] = target[p]
                    self.born[fit[p]] = number
                    born.append(fit[p])
                row.append((fit[p], target[p]))
            self.row = row
            self.answers.append((tuple(born), tuple(paid)))
            moment = after


class RegretTest(unittest.TestCase):
    def test_small_books(self):
        table = court(ORDER, plain(ORDER))
        self.assertEqual(regret(table, (("order", 0),), ("do", 0)), 0)
        self.assertEqual(regret(table, (("pay", 0), ("order", 2)), ("do", 0)), 0)
        self.assertEqual(regret(table, (("pay", 0), ("order", 2)), ("do", 1)), 1)
        self.assertEqual(regret(table, (("order", 1),), ("call", 1)), 0)
        table = court(NEST, plain(NEST))
        self.assertEqual(regret(table, (("main", 0),), ("do", 0)), 2)
        self.assertEqual(regret(table, (("main", 0), ("main", 2)), ("do", 0)), 2)

    def test_wrong_moves(self):
        table = court(ORDER, plain(ORDER))
        for moment, move, word in (((), ("leave",), "over"), ((("order", 0),), ("leave",), "leave"),
                                   ((("order", 0),), ("do", 1), "step"), ((("order", 0),), None, "form"),
                                   ((), None, "form"), ((("order", 1),), ("do", 1), "step")):
            with self.assertRaises(InvalidMove) as caught:
                regret(table, moment, move)
            self.assertEqual(caught.exception.at, word)
        book = one_course(3, (2,), do(0, "a", 1), do(0, "b", 2))
        with self.assertRaises(InvalidMove) as caught:
            regret(court(book, plain(book)), (("main", 0),), ("do", 0))
        self.assertEqual(caught.exception.at, "useless")

    def test_what_is_said_of_regrets(self):
        rng = random.Random(141)
        for table in clear_tables(141, 150):
            per_step = {}
            for _ in range(4):
                run = random_run(rng, table.book, 30)
                moments = run_moments(table.book, run)
                regrets = [regret(table, moments[at], move) for at, move in enumerate(run)]
                self.assertTrue(all(one >= 0 for one in regrets))
                total = sum(len(shown(table, moments[at], move)) for at, move in enumerate(run))
                self.assertEqual(total + len(table.owed(moments[-1])), len(table.owed(moments[0])) + sum(regrets))
                for at, move in enumerate(run):
                    key = (moments[at][0], move)
                    self.assertEqual(per_step.setdefault(key, regrets[at]), regrets[at])


class LedgerTest(unittest.TestCase):
    def test_a_run_with_a_call_and_a_needless_deed(self):
        table = court(ORDER, plain(ORDER))
        ledger = Ledger(table)
        self.assertEqual((ledger.moment(), ledger.moves_done(), ledger.debts()), ((("order", 0),), 0, 3))
        self.assertEqual(ledger.owed(), ((0, "take"), (1, "card"), (2, "send")))
        self.assertEqual((ledger.needless(), ledger.longest_wait()), ((), None))
        self.assertEqual(ledger.do(RUN[0]), ((), (0,)))
        self.assertEqual(ledger.longest_wait(), (1, 0))
        self.assertEqual(ledger.do(RUN[1]), ((), ()))
        # From here on the debt of a stamp is born, behind the card that is paid.
        self.assertEqual(ledger.do(RUN[2]), ((3,), (1,)))
        self.assertEqual(ledger.owed(), ((3, "stamp"), (2, "send")))
        self.assertEqual(ledger.history(3), ("stamp", 3, None))
        for move in RUN[3:]:
            ledger.do(move)
        self.assertEqual((ledger.moment(), ledger.moves_done(), ledger.debts(), ledger.owed()), ((), 7, 4, ()))
        self.assertEqual([ledger.history(n) for n in range(4)],
                         [("take", 0, 1), ("card", 0, 3), ("send", 0, 6), ("stamp", 3, 4)])
        self.assertEqual(ledger.longest_wait(), (6, 2))
        self.assertEqual(ledger.needless(), ())
        self.assertEqual(ledger.table, table)

    def test_needless_deeds(self):
        book = one_course(2, (1,), do(0, "a", 0), do(0, "b", 1))
        ledger = booked(court(book, {"a": ("x", "b"), "b": ("b",)}), (("do", 0), ("do", 0)))
        # The debt b is paid by the first move, and born again with it.
        self.assertEqual(ledger.needless(), ((1, "x"), (2, "x")))
        self.assertEqual((ledger.debts(), ledger.owed()), (3, ((2, "b"),)))
        self.assertEqual([ledger.history(n) for n in range(3)], [("b", 0, 1), ("b", 1, 2), ("b", 2, None)])
        self.assertEqual(ledger.longest_wait(), (1, 0))
        self.assertEqual(ledger.do(("do", 1)), ((), (2,)))
        self.assertEqual(ledger.do(("leave",)), ((), ()))

    def test_debts_born_late_stand_where_they_are_owed(self):
        ledger = Ledger(court(NEST, plain(NEST)))
        self.assertEqual(ledger.owed(), ((0, "c"),))
        self.assertEqual(ledger.do(("do", 0)), ((1,), ()))
        self.assertEqual(ledger.owed(), ((0, "c"), (1, "b")))
        self.assertEqual(ledger.needless(), ((1, "a"),))
        ledger.do(("call", 2))
        self.assertEqual(ledger.do(("do", 0)), ((2,), ()))
        # The first fit keeps the older debt of a b ahead.
        self.assertEqual(ledger.owed(), ((0, "c"), (1, "b"), (2, "b")))
        self.assertEqual(ledger.moment(), (("main", 1), ("main", 2)))

    def test_random_runs(self):
        rng = random.Random(142)
        late = 0
        for table in clear_tables(142, 300):
            for _ in range(4):
                run = random_run(rng, table.book, 40)
                expected = BookByHand(table, run)
                ledger = Ledger(table)
                moments = run_moments(table.book, run)
                for at, move in enumerate(run):
                    self.assertEqual(ledger.do(move), expected.answers[at])
                    self.assertEqual(ledger.moment(), moments[at + 1])
                    self.assertEqual(ledger.moves_done(), at + 1)
                    self.assertEqual(tuple(deed for _, deed in ledger.owed()), table.owed(moments[at + 1]))
                self.compare(ledger, expected)
                self.compare(booked(table, run), expected)
                late += any(ledger.history(n)[1] > 0 for n in range(ledger.debts()))
                self.check_what_is_said(table, run, ledger)
        self.assertGreater(late, 50)

    def compare(self, ledger, expected):
        self.assertEqual(ledger.owed(), tuple(expected.row))
        self.assertEqual(ledger.debts(), len(expected.names))
        self.assertEqual(ledger.needless(), tuple(expected.needless))
        waits = [(expected.paid[n] - expected.born[n], -n) for n in expected.paid]
        self.assertEqual(ledger.longest_wait(), (max(waits)[0], -max(waits)[1]) if waits else None)
        for number in range(ledger.debts()):
            self.assertEqual(ledger.history(number),
                             (expected.names[number], expected.born[number], expected.paid.get(number)))

    def check_what_is_said(self, table, run, ledger):
        """[35]: payments keep the order of the row, are later than births, and all are made at the end."""
        moments = run_moments(table.book, run)
        histories = [ledger.history(n) for n in range(ledger.debts())]
        self.assertTrue(all(paid is None or paid > birth for _, birth, paid in histories))
        if moments[-1] == ():
            self.assertTrue(all(paid is not None for _, _, paid in histories))
        replay = Ledger(table)
        for at, move in enumerate(run):
            numbers = [n for n, _ in replay.owed()]
            times = [len(run) + 1 if histories[n][2] is None else histories[n][2] for n in numbers]
            self.assertEqual(times, sorted(times))
            needless = len(replay.needless())
            born, _ = replay.do(move)
            self.assertEqual(regret(table, moments[at], move), len(replay.needless()) - needless + len(born))

    def test_refused_moves_change_nothing(self):
        table = court(ORDER, plain(ORDER))
        for at in range(len(RUN) + 1):
            ledger = booked(table, RUN[:at])
            before = self.seen(ledger)
            wrong = [value for value in brute.ODD_VALUES if value != ("leave",)] + [("do", 99), ("call", 0)]
            wrong += [move for move in (("leave",), ("do", 0), ("do", 2)) if move not in moves(ORDER, ledger.moment())]
            for value in wrong:
                with self.assertRaises(InvalidMove) as caught:
                    ledger.do(value)
                self.assertIn(caught.exception.at, ("form", "over", "leave", "step"))
                self.assertEqual(self.seen(ledger), before)
        ledger = booked(table, RUN)
        with self.assertRaises(InvalidMove) as caught:
            ledger.do(("leave",))
        self.assertEqual(caught.exception.at, "over")

    def seen(self, ledger):
        return (ledger.moment(), ledger.moves_done(), ledger.owed(), ledger.debts(), ledger.needless(),
                ledger.longest_wait(), [ledger.history(n) for n in range(ledger.debts())])

    def test_histories_of_any_value(self):
        ledger = Ledger(court(ORDER, plain(ORDER)))
        for value in brute.ODD_VALUES + [3, 4, 0.0]:
            with self.assertRaises(InvalidNumber) as caught:
                ledger.history(value)
            self.assertEqual(caught.exception.word, "debt")
        for number in range(3):
            self.assertEqual(ledger.history(number)[1:], (0, None))
        empty = Ledger(court(one_course(1, (0,)), {}))
        with self.assertRaises(InvalidNumber):
            empty.history(0)

    def test_two_ledgers_are_apart(self):
        table = court(ORDER, plain(ORDER))
        one, other = Ledger(table), Ledger(table)
        one.do(("do", 0))
        self.assertEqual(other.moves_done(), 0)
        self.assertEqual(self.seen(other), self.seen(Ledger(table)))


class BookedTest(unittest.TestCase):
    def test_any_value_as_the_run(self):
        table = court(ORDER, plain(ORDER))
        for value in brute.ODD_VALUES + [list(RUN)]:
            if not isinstance(value, tuple):
                with self.assertRaises(InvalidMove) as caught:
                    booked(table, value)
                self.assertEqual(caught.exception.at, -1)
        for value in brute.ODD_VALUES + [("do", 99), ("call", 0)]:
            for at in range(len(RUN) + 1):
                if at < len(RUN) and value == RUN[at]:
                    continue
                with self.assertRaises(InvalidMove) as caught:
                    booked(table, RUN[:at] + (value,) + RUN[at:])
                self.assertEqual(caught.exception.at, at)
        self.assertEqual(booked(table, ()).moves_done(), 0)
        self.assertEqual(booked(table, RUN).moves_done(), 7)

    def test_long_runs_in_a_short_time(self):
        began = time.time()
        book = Book((course("main", 3, (2,), call(0, "x", 0), do(0, "a", 1), do(1, "b", 2)),
                     course("x", 2, (1,), do(0, "a", 1))))
        table = court(book, {"a": ("a",), "b": ("b",) * 399})
        ledger = booked(table, (("call", 0), ("do", 0), ("leave",)) * 666)
        self.assertEqual(ledger.moves_done(), 1998)
        self.assertEqual(len(ledger.owed()), 400)
        loop = court(one_course(1, (0,), do(0, "a", 0)), {"a": ("a",)})
        self.assertEqual(len(booked(loop, (("do", 0),) * 20000).needless()), 20000)
        self.assertLess(time.time() - began, 10)


if __name__ == "__main__":
    unittest.main()
