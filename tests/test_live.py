"""[106], [107]: books that change while they are run."""

import random
import time
import unittest

import brute
from samples import DEAD, NEST, ORDER, TORN, call, course, do, full_book, one_course, tall
from stillowed.books import Book
from stillowed.errors import InvalidBook, InvalidMove, NoEnding, Refused
from stillowed.ledger import booked
from stillowed.lengths import plain
from stillowed.live import Live
from stillowed.moments import run_moments
from stillowed.owed import OwedTable, court
from stillowed.single import owed_at


def fault(case, function, *told):
    """The error that is raised: its class and what it tells."""
    with case.assertRaises((InvalidBook, InvalidMove, NoEnding, Refused)) as caught:
        function(*told)
    return type(caught.exception), list(vars(caught.exception).values())[0]


def state(live):
    return live.present(), live.run(), live.changes()


def replaced(book, name, ends=None, steps=None):
    return Book(tuple((n, many, e if ends is None or n != name else ends, s if steps is None or n != name else steps)
                      for n, many, e, s in book.courses))


class Plain:
    """What a Live does, by its words: the states so far, each a book and the steps of its run."""

    def __init__(self, book):
        self.states = [(book, ())]

    def run(self):
        book, moves = self.states[-1]
        return tuple(move if move == ("leave",) else (move[0], book.steps(name).index(step)) for move, name, step in moves)

    def is_run(self, book, moves):
        moment = ((book.main(), 0),)
        good = brute.useful(book)
        for move, name, step in moves:
            if move != ("leave",):
                if step not in book.steps(name):
                    return False
                move = (move[0], book.steps(name).index(step))
            if move not in brute.let(book, good, moment):
                return False
            moment = brute.behind(book, moment, move)
        return True

    def moment(self):
        moment = ((self.states[-1][0].main(), 0),)
        for move in self.run():
            moment = brute.behind(self.states[-1][0], moment, move)
        return moment

    def change(self, book):
        """Whether the change is made."""
        if not self.is_run(book, self.states[-1][1]):
            return False
        self.states.append((book, self.states[-1][1]))
        return True

    def do(self, move):
        book, moves = self.states[-1]
        moment = self.moment()
        step = None if move == ("leave",) else book.steps(moment[0][0])[move[1]]
        self.states.append((book, moves + ((move, moment[0][0], step),)))


class MovesTest(unittest.TestCase):
    def test_moves_and_taking_them_back(self):
        live = Live(ORDER)
        self.assertEqual(state(live), (ORDER, (), 0))
        self.assertEqual(live.book, ORDER)
        run = (("do", 0), ("call", 1), ("do", 1), ("do", 2), ("leave",), ("do", 2), ("leave",))
        moments = run_moments(ORDER, run)
        for at, move in enumerate(run):
            self.assertEqual((live.moment(), live.run(), live.changes()), (moments[at], run[:at], at))
            self.assertEqual(live.owed(), owed_at(ORDER, plain(ORDER), moments[at]))
            self.assertIsNone(live.do(move))
        self.assertEqual(live.moment(), ())
        self.assertEqual(live.owed(), ())
        self.assertEqual(fault(self, live.do, ("leave",)), (InvalidMove, "over"))
        for at in reversed(range(len(run))):
            self.assertIsNone(live.undo())
            self.assertEqual((live.moment(), live.run(), live.changes()), (moments[at], run[:at], at))
        self.assertEqual(fault(self, live.undo), (Refused, "undo"))
        self.assertEqual(state(live), (ORDER, (), 0))

    def test_errors_of_moves(self):
        live = Live(NEST)
        for move, word in ((None, "form"), (("do", -1), "form"), (["leave"], "form"), (("leave",), "leave"), (("do", 2), "step"),
                           (("call", 0), "step"), (("do", 9), "step")):
            self.assertEqual(fault(self, live.do, move), (InvalidMove, word))
        for value in brute.ODD_VALUES:
            if value not in (("leave",), ("do", True)) or value == ("do", True):
                with self.assertRaises(InvalidMove):
                    live.do(value)
        self.assertEqual(state(live), (NEST, (), 0))
        live = Live(one_course(3, (1,), do(0, "a", 1), do(0, "a", 2)))
        self.assertEqual(fault(self, live.do, ("do", 1)), (InvalidMove, "useless"))
        live = Live(DEAD)
        self.assertEqual(fault(self, live.do, None), (NoEnding, ("main", 0)))


class ChangesTest(unittest.TestCase):
    def test_each_change(self):
        live = Live(NEST)
        live.put_step("main", do(1, "d", 4))
        self.assertEqual(live.present(), one_course(5, (3, 4), *NEST.steps("main"), do(1, "d", 4)))
        live.put_course(course("z", 2, (1,), do(0, "e", 1)))
        live.put_step("main", call(4, "z", 3))
        live.put_end(("z", 0))
        live.put_end(("main", 1))
        self.assertEqual(live.present().courses, (
            course("main", 5, (1, 3, 4), *NEST.steps("main"), do(1, "d", 4), call(4, "z", 3)), course("z", 2, (0, 1), do(0, "e", 1))))
        live.bar_end(("main", 3))
        live.bar_step("main", 1)
        self.assertEqual(live.present().courses[0],
                         course("main", 5, (1, 4), do(0, "a", 1), call(1, "main", 2), do(2, "b", 3), do(1, "d", 4), call(4, "z", 3)))
        self.assertEqual(live.changes(), 7)
        for _ in range(7):
            live.undo()
        self.assertEqual(state(live), (NEST, (), 0))
        self.assertEqual(fault(self, live.undo), (Refused, "undo"))

    def test_refusals(self):
        live = Live(ORDER)
        live.do(("do", 0))
        before = state(live)
        for name in ("x", None, ["order"], 3, True, ("order",), "", {}):
            self.assertEqual(fault(self, live.put_step, name, None), (InvalidMove, "course"))
            self.assertEqual(fault(self, live.bar_step, name, None), (InvalidMove, "course"))
        self.assertEqual(fault(self, live.put_step, "pay", do(0, "card", 2)), (InvalidMove, "step"))
        for k in (3, -1, None, True, 0.0, "0", [0], (0,), 10 ** 30):
            self.assertEqual(fault(self, live.bar_step, "pay", k), (InvalidMove, "step"))
        for stage in (("pay", 1), ("pay", 4), ("x", 0), None, [], ("pay",), ("pay", -1), ("pay", False), (["pay"], 0), 7):
            self.assertEqual(fault(self, live.put_end, stage), (InvalidMove, "end"))
        for stage in (("pay", 0), ("pay", 4), ("x", 0), None, [], ("pay",), ("pay", -1), ("pay", True), ({}, 0), 7):
            self.assertEqual(fault(self, live.bar_end, stage), (InvalidMove, "end"))
        for step in (None, (), [0, "do", "x", 1], do(0, "card", 4), do(4, "card", 0), do(-1, "x", 0), (0, "go", "x", 1),
                     do(0, "X", 1), call(0, "x", 1), do(0, None, 1), (0, "do", ["x"], 1), "step"):
            self.assertEqual(fault(self, live.put_step, "pay", step), (InvalidBook, 1))
        for made in (None, (), [], course("order", 1, ()), course("x", 0, ()), course("x", 21, ()), course("X", 1, ()),
                     course("x", 2, (1, 0)), course("x", 2, (), do(0, "a", 2)), ("x", 1, (0,)), course("x", 1, (), call(0, "y", 0))):
            self.assertEqual(fault(self, live.put_course, made), (InvalidBook, 2))
        self.assertEqual(state(live), before)
        self.assertEqual(live.moment(), (("order", 1),))

    def test_books_beyond_the_limits(self):
        live = Live(tall((20, 20, 15)))
        self.assertEqual(fault(self, live.put_course, course("z", 6, (0,))), (InvalidBook, 3))
        live.put_course(course("z", 5, (0,)))
        live = Live(tall((2,) * 8))
        self.assertEqual(fault(self, live.put_course, course("z", 1, (0,))), (InvalidBook, 8))
        live = Live(one_course(2, (1,), *[do(0, letter, 1) for letter in "abcdefghijkl"]))
        self.assertEqual(fault(self, live.put_step, "main", do(0, "m", 1)), (InvalidBook, 0))
        live.put_step("main", do(1, "l", 1))
        live.bar_step("main", 0)
        live.put_step("main", do(0, "m", 1))
        self.assertEqual(fault(self, live.put_course, course("z", 2, (1,), do(0, "a", 1))), (InvalidBook, 1))

    def test_moves_keep_their_steps(self):
        live = Live(one_course(3, (2,), do(0, "h", 0), do(0, "a", 1), do(0, "b", 0), do(1, "c", 2)))
        for move in (("do", 2), ("do", 2), ("do", 1), ("do", 3), ("leave",)):
            live.do(move)
        self.assertEqual(fault(self, live.bar_step, "main", 2), (Refused, "run"))
        live.bar_step("main", 0)
        self.assertEqual(live.run(), (("do", 1), ("do", 1), ("do", 0), ("do", 2), ("leave",)))
        live.put_step("main", do(0, "h", 0))
        for word in (1, 0, 2):
            self.assertEqual(fault(self, live.bar_step, "main", word), (Refused, "run"))
        self.assertEqual(fault(self, live.bar_end, ("main", 2)), (Refused, "run"))
        live.bar_step("main", 3)
        self.assertEqual(live.changes(), 8)
        for run in (live.run(), live.run(), (("do", 2), ("do", 2), ("do", 1), ("do", 3), ("leave",))):
            live.undo()
            self.assertEqual(live.run(), run)
        live.undo()
        self.assertEqual((live.run(), live.moment()), ((("do", 2), ("do", 2), ("do", 1), ("do", 3)), (("main", 2),)))

    def test_without_moves_a_book_may_die(self):
        live = Live(NEST)
        live.bar_step("main", 1)
        for function in (live.moment, live.verdict, live.owed, live.ledger, lambda: live.do(("do", 0))):
            self.assertEqual(fault(self, function), (NoEnding, ("main", 0)))
        self.assertEqual(live.run(), ())
        live.put_end(("main", 0))
        self.assertEqual(live.moment(), (("main", 0),))
        live.undo()
        live.undo()
        live.do(("do", 0))
        self.assertEqual(fault(self, live.bar_step, "main", 1), (Refused, "run"))
        # A stage of the moment would no longer be useful.
        live = Live(ORDER)
        live.do(("do", 0))
        live.do(("call", 1))
        self.assertEqual(fault(self, live.bar_step, "order", 2), (Refused, "run"))
        live.bar_step("pay", 0)
        self.assertEqual(fault(self, live.bar_step, "pay", 0), (Refused, "run"))

    def test_random_moves_and_changes(self):
        rng = random.Random(1061)
        counted = {}
        for book in brute.mixed_books(1061, 120):
            live, slow = Live(book), Plain(book)
            for _ in range(25):
                word = self.one_thing(rng, live, slow)
                counted[word] = counted.get(word, 0) + 1
                present, moves = slow.states[-1]
                self.assertEqual(state(live), (present, slow.run(), len(slow.states) - 1))
                if (present.main(), 0) in brute.useful(present):
                    self.assertEqual(live.moment(), run_moments(present, live.run())[-1])
                    self.assertEqual(live.moment(), slow.moment())
            while live.changes():
                live.undo()
            self.assertEqual(state(live), (book, (), 0))
            self.assertEqual(fault(self, live.undo), (Refused, "undo"))
        self.assertGreater(min(counted.values()), 20)
        self.assertEqual(len(counted), 15)

    def one_thing(self, rng, live, slow):
        """Do one thing to both; the word for it, and for what it was refused with."""
        book = live.present()
        name = rng.choice(book.names())
        many = book.courses[book.index_of(name)][1]
        word = rng.choice(["do", "do", "do", "put_step", "bar_step", "put_end", "bar_end", "put_course", "undo"])
        if word == "do":
            if (book.main(), 0) not in brute.useful(book):
                return "do dead" if fault(self, live.do, ("leave",))[0] is NoEnding else None
            moves = brute.let(book, brute.useful(book), slow.moment())
            if not moves:
                return "do over" if fault(self, live.do, ("leave",)) == (InvalidMove, "over") else None
            move = rng.choice(moves)
            live.do(move)
            slow.do(move)
            return word
        if word == "undo":
            if len(slow.states) == 1:
                return "undo none" if fault(self, live.undo) == (Refused, "undo") else None
            slow.states.pop()
            live.undo()
            return word
        steps, ends = book.steps(name), book.ends(name)
        if word == "put_step":
            step = rng.choice([do(rng.randrange(many), rng.choice("abc"), rng.randrange(many)),
                               call(rng.randrange(many), rng.choice(book.names()), rng.randrange(many))])
            other = None if step in steps else replaced(book, name, steps=steps + (step,))
            told = (name, step)
        elif word == "bar_step":
            told = (name, rng.randint(0, 3))
            other = None if told[1] >= len(steps) else replaced(book, name, steps=steps[:told[1]] + steps[told[1] + 1:])
        elif word in ("put_end", "bar_end"):
            number = rng.randrange(many)
            told = ((name, number),)
            changed = tuple(sorted(set(ends) | {number})) if word == "put_end" else tuple(n for n in ends if n != number)
            other = None if (number in ends) == (word == "put_end") else replaced(book, name, ends=changed)
        else:
            made = course(rng.choice(["new", "other", name]), 1, (0,))
            told = (made,)
            other = None if book.index_of(made[0]) is not None else Book(book.courses + (made,))
        if other is None:
            self.assertIn(fault(self, getattr(live, word), *told)[0], (InvalidMove, InvalidBook))
            return word + " wrong" if word != "put_course" else word
        if slow.change(other):
            getattr(live, word)(*told)
            return word
        self.assertEqual(fault(self, getattr(live, word), *told), (Refused, "run"))
        return "run"


class AnswersTest(unittest.TestCase):
    def test_verdicts_and_ledgers(self):
        live = Live(NEST)
        for move in (("do", 0), ("call", 2), ("do", 1)):
            live.do(move)
        table = court(NEST, plain(NEST))
        self.assertEqual(vars(live.verdict()), vars(table))
        ledger = live.ledger()
        self.assertEqual((ledger.owed(), ledger.moment(), ledger.needless()), (
            (lambda other: (other.owed(), other.moment(), other.needless()))(booked(table, live.run()))))
        # A ledger goes on by itself.
        ledger.do(("leave",))
        self.assertEqual((len(live.run()), ledger.moves_done()), (3, 4))

    def test_torn_books(self):
        live = Live(TORN)
        self.assertEqual(vars(live.verdict()), vars(court(TORN, plain(TORN))))
        self.assertIsNone(live.owed())
        self.assertEqual(fault(self, live.ledger), (Refused, "torn"))
        live.do(("do", 1))
        self.assertEqual(live.owed(), ("stamp",))
        self.assertEqual(fault(self, live.ledger), (Refused, "torn"))

    def test_errors_of_answers(self):
        live = Live(tall((8, 8, 8, 8, 7, 7, 7, 7)))
        for function in (live.verdict, live.owed, live.ledger):
            self.assertEqual(fault(self, function), (Refused, "long"))
        self.assertEqual(live.moment(), (("a", 0),))
        live = Live(DEAD)
        for function in (live.moment, live.verdict, live.owed, live.ledger):
            self.assertEqual(fault(self, function), (NoEnding, ("main", 0)))

    def test_the_same_book_and_run_made_in_other_ways(self):
        step = do(1, "d", 4)
        one = Live(NEST)
        one.do(("do", 0))
        one.put_step("main", step)
        one.do(("call", 2))
        other = Live(one_course(5, (3,), *NEST.steps("main"), step))
        other.put_end(("main", 4))
        for move in (("do", 0), ("do", 4), ("leave",)):
            other.do(move)
        other.undo()
        other.undo()
        other.do(("call", 2))
        self.assertEqual(one.present(), other.present())
        self.assertEqual((one.run(), one.moment(), one.owed()), (other.run(), other.moment(), other.owed()))
        self.assertEqual(type(one.verdict()), type(other.verdict()))

    def test_random_answers(self):
        rng = random.Random(1071)
        seen = [0, 0]
        for book in brute.mixed_books(1071, 240):
            if (book.main(), 0) not in brute.useful(book):
                continue
            live = Live(book)
            for _ in range(4):
                moves = brute.let(book, brute.useful(book), live.moment())
                if moves:
                    live.do(rng.choice(moves))
            self.assertEqual(live.owed(), owed_at(book, plain(book), live.moment()))
            verdict = court(book, plain(book))
            self.assertEqual(vars(live.verdict()).keys(), vars(verdict).keys())
            seen[isinstance(verdict, OwedTable)] += 1
            if isinstance(verdict, OwedTable):
                self.assertEqual(tuple(deed for _, deed in live.ledger().owed()), live.owed())
            else:
                self.assertEqual(fault(self, live.ledger), (Refused, "torn"))
        self.assertGreater(min(seen), 20)


class LimitsTest(unittest.TestCase):
    def test_long_runs(self):
        began = time.time()
        book = one_course(3, (2,), do(0, "a", 0), call(0, "main", 1), do(1, "b", 2), do(0, "b", 2), do(2, "c", 0))
        live = Live(book)
        for _ in range(50000):
            live.do(("do", 0))
            live.do(("call", 1))
        self.assertEqual(len(live.moment()), 50001)
        live.bar_step("main", 4)
        live.put_step("main", do(0, "d", 0))
        self.assertEqual(fault(self, live.bar_step, "main", 1), (Refused, "run"))
        self.assertEqual(live.changes(), 100002)
        for _ in range(100002):
            live.undo()
        self.assertEqual(state(live), (book, (), 0))
        self.assertLess(time.time() - began, 10)

    def test_at_the_limits(self):
        began = time.time()
        rng = random.Random(1062)
        for _ in range(3):
            live = Live(full_book(rng))
            for _ in range(200):
                moves = brute.let(live.present(), brute.useful(live.present()), live.moment())
                if moves and len(live.moment()) < 50:
                    live.do(rng.choice(moves))
            for name in live.present().names():
                try:
                    live.bar_step(name, 3)
                except Refused as error:
                    self.assertEqual(error.word, "run")
        self.assertLess(time.time() - began, 10)


if __name__ == "__main__":
    unittest.main()
