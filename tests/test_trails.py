"""[61]: trails, the moments and the runs to which they lead."""

import random
import time
import unittest

import brute
from brute import ODD_VALUES
from samples import DEAD, NEST, ORDER, call, chain_of_rank, course, do, full_book, one_course
from stillowed.books import Book
from stillowed.errors import InvalidMove, NoEnding, Refused
from stillowed.met import met
from stillowed.moments import run_moments
from stillowed.tallies import nth_run
from stillowed.trails import check_trail, trail_moment, trail_run, trail_to
from stillowed.useful import ranks

# x never ends; the deeds u lead to stages that are not useful.
HALF = Book((
    course("m", 5, (2,), do(0, "a", 1), call(0, "m", 1), do(1, "b", 2), call(0, "x", 1), do(0, "u", 3), call(1, "m", 3),
           do(0, "c", 0)),
    course("x", 1, ()),
))


def first_wrong(book, trail):
    """The number of the first wrong frame by the words of the document, None if the trail is right; and its moment."""
    good = brute.useful(book)
    course_name = book.main()
    rests = []
    for at, frame in enumerate(trail):
        if not isinstance(frame, tuple):
            return at, None
        stage = (course_name, 0)
        last = None
        for k in frame:
            if isinstance(k, bool) or not isinstance(k, int) or k not in brute.leaving(book, stage):
                return at, None
            parts = brute.parts(book, stage, k)
            if not all(part in good for part in parts):
                return at, None
            stage, last = parts[-1], parts
        rests.append(stage)
        if at < len(trail) - 1:
            if last is None or len(last) == 1:
                return at, None
            course_name = last[0][0]
    return None, tuple(reversed(rests))


def random_trail(rng, book):
    """A trail that is mostly right."""
    good = brute.useful(book)
    frames = []
    name = book.main()
    for _ in range(rng.randint(1, 4)):
        stage = (name, 0)
        frame = []
        for _ in range(rng.randint(0, 4)):
            steps = [k for k in brute.leaving(book, stage)
                     if all(part in good for part in brute.parts(book, stage, k)) or rng.random() < 0.1]
            if not steps:
                break
            k = rng.choice(steps)
            frame.append(k)
            stage = brute.parts(book, stage, k)[-1]
        frames.append(tuple(frame))
        if frame and book.steps(name)[frame[-1]][1] == "call":
            name = book.steps(name)[frame[-1]][2]
        elif rng.random() < 0.8:
            break
    return tuple(frames)


class TrailTest(unittest.TestCase):
    def fails(self, book, trail, at):
        for function in (trail_moment, trail_run):
            with self.assertRaises(InvalidMove) as caught:
                function(book, trail)
            self.assertEqual(caught.exception.at, at, trail)

    def test_small_trails(self):
        self.assertEqual(trail_moment(ORDER, ((),)), (("order", 0),))
        self.assertEqual(trail_moment(ORDER, ((0, 1),)), (("order", 2),))
        self.assertEqual(trail_moment(ORDER, ((0, 1), (1,))), (("pay", 2), ("order", 2)))
        self.assertEqual(trail_run(ORDER, ((0, 1), (1,))), (("do", 0), ("call", 1), ("do", 1)))
        self.assertEqual(trail_run(ORDER, ((0, 1),)), (("do", 0), ("call", 1), ("do", 0), ("leave",)))
        self.assertEqual(trail_run(ORDER, ((),)), ())
        self.assertEqual(trail_moment(NEST, ((0, 2), (0, 2), (0, 2, 3))), (("main", 3), ("main", 2), ("main", 2)))
        self.assertEqual(trail_run(NEST, ((0, 2), (0, 2, 3)))[-4:], (("call", 2), ("do", 1), ("leave",), ("do", 3)))

    def test_wrong_frames(self):
        for trail, at in ((((0,), ()), 0), (((0, 1), (0,), ()), 1), (((), ()), 0), (((1,),), 0), (((0, 0),), 0),
                          (((0, 1), (2,)), 1), (((0, 1), [0]), 1), (((0, 1, 2), ()), 0), (((0, True),), 0),
                          (((9,),), 0), (((-1,),), 0), ((None,), 0), (((0, 1), None, None), 1), ((), -1),
                          (((0, 1), ("0",)), 1), ([()], -1), (((0, 1.0),), 0)):
            self.fails(ORDER, trail, at)
        for trail in (((3,),), ((4,),), ((0, 5),), ((1,), (3,))):
            self.fails(HALF, trail, len(trail) - 1)
        self.assertEqual(trail_moment(HALF, ((6, 1), (6, 0, 2))), (("m", 2), ("m", 1)))

    def test_any_values(self):
        for value in ODD_VALUES:
            for trail in (value, ((0, 1), value), ((0, value),)):
                at, moment = (-1, None) if not isinstance(trail, tuple) or not trail else first_wrong(ORDER, trail)
                if at is None:
                    self.assertEqual(trail_moment(ORDER, trail), moment)
                else:
                    self.fails(ORDER, trail, at)
                for stage in ORDER.stages():
                    self.assertEqual(check_trail(ORDER, stage, trail), at is None and moment[0] == stage)

    def test_dead_books(self):
        for function in (trail_moment, trail_run):
            for value in (((),), None, ()):
                with self.assertRaises(NoEnding) as caught:
                    function(DEAD, value)
                self.assertEqual(caught.exception.stage, ("main", 0))
        self.assertFalse(check_trail(DEAD, ("main", 0), ((),)))
        with self.assertRaises(NoEnding):
            trail_to(DEAD, ("main", 0))

    def test_random_trails(self):
        rng = random.Random(3)
        right = 0
        for book in brute.mixed_books(31, 300):
            if (book.main(), 0) not in brute.useful(book):
                continue
            for _ in range(6):
                trail = random_trail(rng, book)
                at, moment = first_wrong(book, trail)
                if at is not None:
                    self.fails(book, trail, at)
                    continue
                right += 1
                self.assertEqual(trail_moment(book, trail), moment)
                self.assertTrue(check_trail(book, moment[0], trail))
                others = [stage for stage in book.stages() if stage != moment[0]]
                self.assertFalse(any(check_trail(book, stage, trail) for stage in others))
                self.check_run(book, trail, moment)
        self.assertGreater(right, 300)

    def check_run(self, book, trail, moment):
        run = trail_run(book, trail)
        self.assertEqual(run_moments(book, run)[-1], moment)
        places = list(run)
        name = book.main()
        for at, frame in enumerate(trail):
            for place, k in enumerate(frame):
                step = book.steps(name)[k]
                self.assertEqual(places.pop(0), (step[1], k))
                if step[1] == "call" and not (at < len(trail) - 1 and place == len(frame) - 1):
                    first = (step[2], 0)
                    if ranks(book)[first] <= 30:
                        finish = nth_run(book, first, 0)
                        self.assertEqual(tuple(places[:len(finish)]), finish)
                    del places[:ranks(book)[first]]
            if at < len(trail) - 1:
                name = book.steps(name)[frame[-1]][2]
        self.assertEqual(places, [])

    def test_trails_to_stages(self):
        for book in brute.mixed_books(33, 120):
            for stage in met(book):
                trail = trail_to(book, stage)
                self.assertEqual(first_wrong(book, trail)[1][0], stage)
                self.assertTrue(check_trail(book, stage, trail))
            for stage in book.stages():
                if stage not in met(book):
                    with self.assertRaises((NoEnding, Refused)):
                        trail_to(book, stage)

    def test_runs_of_20000_moves(self):
        loop = one_course(1, (0,), do(0, "a", 0))
        self.assertEqual(len(trail_run(loop, ((0,) * 20000,))), 20000)
        with self.assertRaises(Refused) as caught:
            trail_run(loop, ((0,) * 20001,))
        self.assertEqual(caught.exception.word, "long")
        self.assertEqual(trail_moment(loop, ((0,) * 100000,)), (("main", 0),))
        deep = one_course(2, (0, 1), call(0, "main", 1))
        self.assertEqual(len(trail_run(deep, ((0,),) * 20000 + ((),))), 20000)
        with self.assertRaises(Refused):
            trail_run(deep, ((0,),) * 20001 + ((),))
        self.assertEqual(len(trail_moment(deep, ((0,),) * 20001)), 20001)
        for rank, right in ((19999, True), (20000, False)):
            inner = chain_of_rank(rank)
            book = Book((course("z", 2, (1,), call(0, "a", 1)),) + inner.courses[:7])
            self.assertEqual(ranks(book)[("a", 0)], rank)
            if right:
                self.assertEqual(len(trail_run(book, ((0,),))), 20000)
            else:
                with self.assertRaises(Refused):
                    trail_run(book, ((0,),))
            self.assertEqual(trail_run(book, ((0,), ())), (("call", 0),))
        with self.assertRaises(InvalidMove):
            trail_run(loop, ((0,) * 30000 + (1,),))

    def test_books_at_the_limits(self):
        rng = random.Random(5)
        begun = time.time()
        for _ in range(4):
            book = full_book(rng)
            for stage in met(book):
                trail = trail_to(book, stage)
                self.assertTrue(check_trail(book, stage, trail))
                trail_run(book, trail)
        self.assertLess(time.time() - begun, 20)


if __name__ == "__main__":
    unittest.main()
