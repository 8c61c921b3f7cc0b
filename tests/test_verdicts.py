"""[40], [42]: what is said of a book and a dealing, as objects, and the rows that a DealtTable tells."""

import random
import unittest

import brute
from samples import NEST, ORDER
from stillowed.dealings import own_desks, part, parts
from stillowed.errors import NoEnding
from stillowed.lengths import plain
from stillowed.owed import TwoEndings, court
from stillowed.verdicts import DealtTable, DeskSplit, NeverTogether
from tables import clear_tables

DEALING = (("card", "desk"), ("send", "mail"), ("stamp", "desk"), ("take", "desk"))


def dealt(book, dealing):
    """The DealtTable of a book that is clear where each deed stands for itself."""
    table = court(book, plain(book))
    return DealtTable(book, dealing, table.rows, table.ways, table.ranks)


class DealtTableTest(unittest.TestCase):
    def test_attributes(self):
        table = court(ORDER, plain(ORDER))
        made = dealt(ORDER, DEALING)
        self.assertEqual(vars(made), {"book": ORDER, "dealing": DEALING, "rows": table.rows, "ways": table.ways,
                                      "ranks": table.ranks})

    def test_rows_and_parts(self):
        made = dealt(ORDER, DEALING)
        self.assertEqual(made.row(("order", 0)), ("take", "card", "send"))
        self.assertEqual(made.part_at("desk", ("order", 0)), ("take", "card"))
        self.assertEqual(made.part_at("mail", ("order", 0)), ("send",))
        self.assertEqual(made.part_at("none", ("order", 0)), ())
        moment = (("pay", 2), ("order", 2))
        self.assertEqual(made.owed(moment), ("stamp", "send"))
        self.assertEqual(made.parts_at(moment), (("desk", ("stamp",)), ("mail", ("send",))))
        self.assertEqual(made.owed(()), ())
        self.assertEqual(made.parts_at(()), (("desk", ()), ("mail", ())))
        self.assertEqual(made.owed((("order", 2),)), ("send",))
        nest = dealt(NEST, own_desks(NEST))
        self.assertEqual(nest.parts_at((("main", 1), ("main", 2), ("main", 2))), (("a", ()), ("b", ("b",) * 3), ("c", ("c",))))

    def test_stages_that_are_no_key(self):
        made = dealt(ORDER, DEALING)
        for call, stage in ((lambda: made.row(("pay", 9)), ("pay", 9)), (lambda: made.part_at("desk", ("x", 0)), ("x", 0)),
                            (lambda: made.owed((("pay", 0), ("x", 1), ("x", 2))), ("x", 1)),
                            (lambda: made.parts_at((("order", 4),)), ("order", 4)),
                            (lambda: made.parts_at((("pay", 0), ("order", 4), ("order", 5))), ("order", 4))):
            with self.assertRaises(NoEnding) as caught:
                call()
            self.assertEqual(caught.exception.stage, stage)

    def test_random_tables(self):
        rng = random.Random(421)
        for table in clear_tables(421, 60):
            if table.view != plain(table.book):
                continue
            dealing = tuple((deed, rng.choice(("p", "q", "r"))) for deed in table.book.deeds())
            made = DealtTable(table.book, dealing, table.rows, table.ways, table.ranks)
            stages = sorted(table.rows)
            for many in (0, 1, 3):
                moment = tuple(rng.choice(stages) for _ in range(many))
                self.assertEqual(made.owed(moment), table.owed(moment))
                self.assertEqual(made.parts_at(moment), parts(dealing, table.owed(moment)))
            for stage in stages:
                self.assertEqual(made.row(stage), table.row(stage))
                for desk in ("p", "q", "zz"):
                    self.assertEqual(made.part_at(desk, stage), part(dealing, desk, table.row(stage)))

    def test_later_changes_of_arguments_have_no_effect(self):
        rows, ways, ranks = {("m", 0): ()}, {("m", 0): ("end",)}, {("m", 0): 0}
        made = DealtTable(ORDER, DEALING, rows, ways, ranks)
        for told in (rows, ways, ranks):
            told.clear()
        self.assertEqual((made.rows, made.ways, made.ranks), ({("m", 0): ()}, {("m", 0): ("end",)}, {("m", 0): 0}))


class OtherVerdictsTest(unittest.TestCase):
    def test_attributes(self):
        two = TwoEndings(("x", 0), ((),), {}, {}, ("a",), ("b",))
        self.assertEqual(vars(DeskSplit("desk", two)), {"desk": "desk", "two": two})
        told = {"stage": ("x", 0), "trail": ((),), "tables": (("d", None),), "desk": "d", "one": ("a",), "other": ()}
        self.assertEqual(vars(NeverTogether(**told)), told)
        self.assertEqual(vars(NeverTogether(*told.values())), told)

    def test_nothing_is_checked(self):
        for value in brute.ODD_VALUES:
            made = DealtTable(value, value, value, value, value)
            self.assertEqual(repr(made.dealing), repr(value))
            self.assertIs(DeskSplit(value, value).two, value)
            self.assertIs(NeverTogether(value, value, value, value, value, value).tables, value)


if __name__ == "__main__":
    unittest.main()
