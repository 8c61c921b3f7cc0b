"""[13]: courses out of books."""

import random
import time
import unittest

from samples import NEST, ORDER, call, course, do, one_course
from stillowed.books import Book
from stillowed.errors import NoEnding, Refused
from stillowed.expressions import normal
from stillowed.texts import read_courses, show_courses
from stillowed.unfold import courses_of


def graph_of_steps(steps, ends):
    """A graph as (dict from a number to pairs (letter, number), ends)."""
    table = {}
    for number, kind, name, onto in steps:
        table.setdefault(number, []).append(((kind, name), onto))
    return table, set(ends)


def graph_of_expression(expression):
    """A graph with the same lines, with a number for each place; pairs with the letter None are empty moves."""
    table = {}
    many = [1]

    def fresh():
        many[0] += 1
        return many[0]

    def put(part, begun, ended):
        word = part[0]
        if word in ("deed", "call", "nothing"):
            letter = {"deed": "do", "call": "call"}.get(word)
            table.setdefault(begun, []).append(((letter, part[1]) if letter else None, ended))
        elif word == "seq":
            for inner in part[1][:-1]:
                onto = fresh()
                put(inner, begun, onto)
                begun = onto
            put(part[1][-1], begun, ended)
        elif word == "either":
            for inner in part[1]:
                put(inner, begun, ended)
        else:
            one, other = fresh(), fresh()
            table.setdefault(begun, []).extend([(None, one), (None, ended)])
            table.setdefault(other, []).append((None, ended))
            if word == "again":
                table[other].append((None, one))
            put(part[1], one, other)

    put(expression, 0, 1)
    return table, {1}


def closed(table, numbers):
    found = set(numbers)
    waiting = list(numbers)
    while waiting:
        for letter, onto in table.get(waiting.pop(), ()):
            if letter is None and onto not in found:
                found.add(onto)
                waiting.append(onto)
    return frozenset(found)


def same_lines(one, other):
    """Whether two graphs have the same lines, by going along both at once."""
    first = (closed(one[0], [0]), closed(other[0], [0]))
    seen = {first}
    waiting = [first]
    while waiting:
        pair = waiting.pop()
        if bool(pair[0] & one[1]) != bool(pair[1] & other[1]):
            return False
        letters = {letter for graph, numbers in zip((one, other), pair) for n in numbers
                   for letter, _ in graph[0].get(n, ()) if letter}
        for letter in letters:
            onto = tuple(closed(graph[0], [to for n in numbers for sign, to in graph[0].get(n, ()) if sign == letter])
                         for graph, numbers in zip((one, other), pair))
            if onto not in seen:
                seen.add(onto)
                waiting.append(onto)
    return True


class CoursesOfTest(unittest.TestCase):
    def check(self, book):
        found = courses_of(book)
        self.assertEqual(tuple(name for name, _ in found), book.names())
        self.assertEqual(found, tuple((name, normal(expression)) for name, expression in found))
        self.assertEqual(read_courses(show_courses(found)), found)
        for name, expression in found:
            graph = graph_of_steps(book.steps(name), book.ends(name))
            self.assertTrue(same_lines(graph, graph_of_expression(expression)), (book.courses, expression))

    def test_small_books(self):
        for book in (ORDER, NEST, one_course(1, (0,)), one_course(2, (0, 1), do(0, "a", 1)),
                     one_course(1, (0,), do(0, "a", 0), call(0, "main", 0)),
                     one_course(3, (0,), do(0, "a", 1), do(1, "b", 0), do(1, "c", 2), do(2, "d", 2)),
                     one_course(4, (1,), do(0, "a", 1), do(2, "b", 1), do(0, "c", 3))):
            self.check(book)

    def test_random_books(self):
        rng = random.Random(3)
        checked = 0
        while checked < 400:
            courses = []
            for name in ("main", "x")[:rng.randint(1, 2)]:
                many = rng.randint(1, 5)
                steps = {(rng.randrange(many), "do", rng.choice("abcd"), rng.randrange(many)) if rng.random() < 0.7
                         else (rng.randrange(many), "call", "main", rng.randrange(many))
                         for _ in range(rng.choice([0, 2, 5, 9]))}
                ends = tuple(n for n in range(many) if rng.random() < 0.4)
                courses.append((name, many, ends, tuple(steps)))
            try:
                self.check(Book(tuple(courses)))
                checked += 1
            except NoEnding as error:
                self.assertIn(error.stage[0], ("main", "x"))

    def test_full_books(self):
        steps = tuple(do(a, word, b) for a in range(5) for b in range(5) for word in "abcd")
        begun = time.time()
        self.check(one_course(5, (0, 1, 2, 3, 4), *steps))
        self.check(one_course(5, (4,), *steps))
        self.assertLess(time.time() - begun, 10)

    def test_errors(self):
        five = course("a", 5, (), do(0, "a", 1))
        six = course("b", 6, (0,))
        with self.assertRaises(Refused) as caught:
            courses_of(Book((five, six)))
        self.assertEqual(caught.exception.word, "wide")
        for book, name in ((Book((course("m", 1, (0,)), five, course("c", 2, (1,)))), "a"),
                           (Book((course("m", 2, (1,), do(1, "a", 0)), five)), "m"),
                           (Book((course("m", 5, (0,)), course("z", 3, (2,), do(0, "a", 1), do(1, "b", 1)))), "z")):
            with self.assertRaises(NoEnding) as caught:
                courses_of(book)
            self.assertEqual(caught.exception.stage, (name, 0))
        # Calls count as steps wherever they lead.
        self.check(one_course(2, (1,), call(0, "main", 1)))


if __name__ == "__main__":
    unittest.main()
