"""[3], [4]: what holds of every function: arguments stay, answers are new, equal ones for equal arguments."""

import copy
import unittest

import brute
from samples import NEST, ORDER
from stillowed.books import Book
from stillowed.endings import endings, has_ending, nth_ending
from stillowed.expressions import normal, rows_of
from stillowed.lengths import check_lengths, chosen_rows, lengths, plain, rows_along, ways
from stillowed.met import check_met, met, run_to
from stillowed.moments import (all_moments, check_moment, deeds_of, moved, moves, run_moments, start, way_to)
from stillowed.useful import check_ranks, check_useless, ranks, useless

VIEW = {"take": ("t", "k"), "card": (), "stamp": ("s",), "send": ("z",), "more": ("q",)}
RUN = (("do", 0), ("call", 1), ("do", 1))
COURSES = (("main", ("seq", (("deed", "a"), ("maybe", ("call", "main"))))),)

# Each function with arguments by the names of the document.
CALLS = [
    (ranks, {"book": ORDER}), (useless, {"book": ORDER}), (check_ranks, {"book": ORDER, "table": ranks(ORDER)}),
    (check_useless, {"book": ORDER, "stages": ()}),
    (endings, {"book": ORDER, "stage": ("pay", 0), "size": 3}), (nth_ending, {"book": ORDER, "stage": ("pay", 0), "n": 1}),
    (has_ending, {"book": ORDER, "stage": ("pay", 0), "row": ("card",)}),
    (normal, {"expression": COURSES[0][1]}), (rows_of, {"courses": COURSES, "name": "main", "size": 3}),
    (plain, {"book": ORDER}), (lengths, {"book": ORDER, "view": VIEW}), (ways, {"book": ORDER, "view": VIEW}),
    (rows_along, {"book": ORDER, "view": VIEW, "chosen": ways(ORDER, VIEW)}), (chosen_rows, {"book": ORDER, "view": VIEW}),
    (check_lengths, {"book": ORDER, "view": VIEW, "table": lengths(ORDER, VIEW), "chosen": ways(ORDER, VIEW)}),
    (met, {"book": ORDER}), (run_to, {"book": ORDER, "stage": ("pay", 3)}),
    (check_met, {"book": ORDER, "table": met(ORDER)}),
    (start, {"book": ORDER}), (check_moment, {"book": ORDER, "moment": (("order", 1),)}),
    (way_to, {"book": ORDER, "moment": (("pay", 3), ("order", 2))}), (all_moments, {"book": ORDER, "most": 20}),
    (moves, {"book": ORDER, "moment": (("pay", 0), ("order", 2))}),
    (moved, {"book": ORDER, "moment": (("pay", 0), ("order", 2)), "move": ("do", 1)}),
    (run_moments, {"book": ORDER, "run": RUN}), (deeds_of, {"book": ORDER, "run": RUN}),
]


def written(value):
    """A value with everything in it that may be compared, the order of keys included."""
    if isinstance(value, dict):
        return ("dict", [(written(key), written(value[key])) for key in value])
    if isinstance(value, (tuple, list)):
        return (type(value).__name__, [written(part) for part in value])
    if isinstance(value, (int, str, type(None))):
        return (type(value).__name__, value)
    return (type(value).__name__, [(name, written(part)) for name, part in sorted(vars(value).items())])


class EveryFunctionTest(unittest.TestCase):
    def test_by_position_and_by_name(self):
        for function, told in CALLS:
            answer = function(**told)
            self.assertEqual(written(function(*told.values())), written(answer), function.__name__)

    def test_arguments_stay_as_they_were(self):
        for function, told in CALLS:
            before = written(told)
            function(**told)
            self.assertEqual(written(told), before, function.__name__)

    def test_equal_arguments_give_equal_results(self):
        for function, told in CALLS:
            answer = function(**told)
            again = {name: copy.deepcopy(value) for name, value in told.items()}
            self.assertEqual(written(function(**again)), written(answer), function.__name__)
            turned = {name: dict(reversed(list(value.items()))) if isinstance(value, dict) else value
                      for name, value in told.items()}
            self.assertEqual(function(**turned), answer, function.__name__)

    def test_a_changed_answer_changes_no_later_one(self):
        for function, told in CALLS:
            answer = function(**told)
            if isinstance(answer, dict):
                before = written(answer)
                answer.clear()
                self.assertEqual(written(function(**told)), before, function.__name__)
                answer = function(**told)
                for key in list(answer):
                    answer[key] = None
                self.assertEqual(written(function(**told)), before, function.__name__)

    def test_a_changed_argument_changes_no_earlier_answer(self):
        view = dict(VIEW)
        answer = chosen_rows(ORDER, view)
        before = written(answer)
        view.clear()
        self.assertEqual(written(answer), before)

    def test_rows_for_other_names_are_ignored(self):
        for function in (lengths, ways, chosen_rows):
            self.assertEqual(function(NEST, {**plain(NEST), "zzzzz": ("q",) * 9}), function(NEST, plain(NEST)))

    def test_books_stay_as_they_were(self):
        for book in brute.random_books(71, 30):
            before = copy.deepcopy(vars(book))
            for function in (ranks, useless, met, plain):
                function(book)
            ways(book, plain(book))
            for stage in book.stages():
                nth_ending(book, stage, 3)
            self.assertEqual(vars(book), before)
            self.assertEqual(book, Book(book.courses))


if __name__ == "__main__":
    unittest.main()
