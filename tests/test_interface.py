"""The interface: each name in its file, with the parameters that the points give it."""

import importlib
import inspect
import unittest

FUNCTIONS = {
    "useful": "ranks(book) useless(book) check_ranks(book,table) check_useless(book,stages)",
    "endings": "endings(book,stage,size) nth_ending(book,stage,n) has_ending(book,stage,row)",
    "expressions": "normal(expression) rows_of(courses,name,size)",
    "lengths": "plain(book) lengths(book,view) ways(book,view) rows_along(book,view,chosen) chosen_rows(book,view) "
               "check_lengths(book,view,table,chosen)",
    "met": "met(book) run_to(book,stage) check_met(book,table)",
    "moments": "start(book) check_moment(book,moment) way_to(book,moment) all_moments(book,most) moves(book,moment) "
               "moved(book,moment,move) run_moments(book,run) deeds_of(book,run)",
}

CLASSES = {
    "errors": "StillError() InvalidRow(at) InvalidText(at) InvalidBook(at) InvalidMoment(at) InvalidMove(at) "
              "InvalidDealing(at) InvalidNumber(word) NoEnding(stage) Refused(word)",
    "books": "Book(courses)",
}

METHODS = {
    ("books", "Book"): "names() main() index_of(name) ends(course) steps(course) steps_from(stage) is_end(stage) "
                       "is_stage(value) stages() calls() deeds() __eq__(other)",
}


def written(name, function, skipped=0):
    """A signature without blanks."""
    told = list(inspect.signature(function).parameters.values())[skipped:]
    parts = []
    for one in told:
        if one.kind is one.KEYWORD_ONLY and "*" not in parts:
            parts.append("*")
        parts.append(one.name if one.default is one.empty else f"{one.name}={one.default!r}")
    return f"{name}({','.join(parts)})"


class InterfaceTest(unittest.TestCase):
    def test_functions(self):
        for file, told in FUNCTIONS.items():
            module = importlib.import_module("stillowed." + file)
            for text in told.split():
                name = text.split("(")[0]
                function = getattr(module, name)
                self.assertTrue(inspect.isfunction(function), name)
                self.assertEqual(function.__module__, "stillowed." + file)
                self.assertEqual(written(name, function), text)

    def test_classes(self):
        for file, told in CLASSES.items():
            module = importlib.import_module("stillowed." + file)
            for text in told.split():
                name = text.split("(")[0]
                found = getattr(module, name)
                self.assertTrue(inspect.isclass(found), name)
                self.assertEqual(found.__module__, "stillowed." + file)
                if text != "StillError()":
                    self.assertIn("__init__", vars(found))
                    self.assertEqual(written(name, found.__init__, 1), text)

    def test_methods(self):
        for (file, name), told in METHODS.items():
            found = getattr(importlib.import_module("stillowed." + file), name)
            for text in told.split():
                word = text.split("(")[0]
                self.assertIn(word, vars(found), "defined in the class itself")
                self.assertEqual(written(word, vars(found)[word], 1), text)


if __name__ == "__main__":
    unittest.main()
