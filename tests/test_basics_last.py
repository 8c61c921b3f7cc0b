"""[4] for the functions of papers, desks, coarse, weaves, resting, notes, bars, blurs and claims."""

import unittest

from every_call import EveryCall, written
from samples import NEST, ORDER, TORN
from stillowed.bars import Fault, Mended, NoCheaper, all_least_bars, check_no_cheaper, least_bars
from stillowed.blurs import all_blurs, blur_view, check_finest, coarser, finest_blurs, finest_paper, just_finer
from stillowed.checker import check, concluded, gather, words
from stillowed.coarse import Blocks, check_blocks, clear_blocks, coarsest, is_block
from stillowed.dealings import one_desk, own_desks
from stillowed.desks import check_verdict, is_clear_by, judge, looks_by
from stillowed.lengths import plain
from stillowed.notes import check_plan, note_plan, old_book, old_note
from stillowed.owed import court
from stillowed.papers import check_table, check_two
from stillowed.resting import free_run, late_note, loaders, stretches
from stillowed.texts import book_of, read_courses
from stillowed.weaves import Free, NotFree, check_weaves, is_weave, outside, run_of_weave, starters, weaves
from test_desks import APART, SHUFFLED

TABLE = court(ORDER, plain(ORDER))
NESTED = court(NEST, plain(NEST))
TWO = court(TORN, plain(TORN))
DEALT = judge(SHUFFLED, own_desks(SHUFFLED))
FREE = weaves(DEALT)
LINE = judge(book_of(read_courses("main: a b")), (("a", "a"), ("b", "b")))
BLOCKS = clear_blocks(SHUFFLED)
QUIET = court(book_of(read_courses("main: (x) a\nx: [h b]")), {"a": ("a",), "b": ("b",), "h": ()})
QUIET_DEALING = (("a", "p"), ("b", "p"), ("h", "q"))
START = (("main", 0),)
PRICES = {("main", 2): 2, ("main", 0): 3, ("main", 1): 2}
PAPER = least_bars(TORN, plain(TORN), PRICES).paper
BLUR = (("a", "a"), ("b", "a"))
FINEST, TEARS = finest_paper(SHUFFLED, BLUR)
ROWS, MARKS = note_plan(NESTED, (START, (("main", 2),)))

CALLS = [
    (check_table, {"table": TABLE}), (check_two, {"book": TORN, "view": plain(TORN), "two": TWO}),
    (judge, {"book": SHUFFLED, "dealing": own_desks(SHUFFLED)}), (judge, {"book": SHUFFLED, "dealing": one_desk(SHUFFLED)}),
    (judge, {"book": APART, "dealing": own_desks(APART)}), (is_clear_by, {"book": SHUFFLED, "dealing": own_desks(SHUFFLED)}),
    (looks_by, {"book": SHUFFLED, "dealing": own_desks(SHUFFLED), "rows": DEALT.rows}),
    (check_verdict, {"book": SHUFFLED, "dealing": own_desks(SHUFFLED), "value": DEALT}),
    (check_verdict, {"book": APART, "dealing": own_desks(APART), "value": judge(APART, own_desks(APART))}),
    (clear_blocks, {"book": SHUFFLED}), (is_block, {"blocks": BLOCKS, "lot": ("a",)}),
    (check_blocks, {"book": SHUFFLED, "value": BLOCKS}), (coarsest, {"book": SHUFFLED}), (Blocks, {"faces": (), "walls": ()}),
    (is_weave, {"table": DEALT, "moment": START, "row": ("b", "a")}), (weaves, {"table": DEALT}), (weaves, {"table": LINE}),
    (starters, {"table": DEALT}), (outside, {"table": DEALT}),
    (run_of_weave, {"free": FREE, "moment": START, "row": ("b", "a")}), (check_weaves, {"table": DEALT, "value": FREE}),
    (Free, {"table": DEALT, "starts": {("a", 0): ()}, "outer": {"a": ()}}), (NotFree, {"trail": ((),), "pile": START, "weave": ("a",)}),
    (stretches, {"table": QUIET, "run": (("call", 0), ("do", 0))}),
    (free_run, {"table": QUIET, "movers": ("h",), "moment": START, "goal": (("x", 1), ("main", 1))}),
    (loaders, {"table": QUIET, "dealing": QUIET_DEALING, "moment": START, "gain": 1}), (late_note, {"table": QUIET}),
    (note_plan, {"table": NESTED, "moments": (START, ())}),
    (check_plan, {"book": NEST, "moments": (START, (("main", 2),)), "rows": ROWS, "marks": MARKS}),
    (old_note, {"row": ("a", "b"), "deeds": ("b", "a")}), (old_book, {"row": ("a", "b"), "deeds": ("b", "a")}),
    (all_least_bars, {"book": TORN, "view": plain(TORN), "prices": PRICES}),
    (least_bars, {"book": TORN, "view": plain(TORN), "prices": PRICES}), (check_no_cheaper, {"paper": PAPER}),
    (Fault, {"place": 0, "first": (), "second": (), "numbers": {("a", 0): 0}}),
    (NoCheaper, {"book": TORN, "view": plain(TORN), "prices": {("a", 0): 1}, "most": 3, "cost": 1, "nodes": ()}),
    (Mended, {"bars": (), "cost": 0, "table": TABLE, "paper": PAPER}),
    (blur_view, {"blur": BLUR}), (all_blurs, {"deeds": ("a", "b")}), (coarser, {"one": BLUR, "other": BLUR}),
    (just_finer, {"blur": BLUR}), (finest_blurs, {"book": SHUFFLED}), (finest_paper, {"book": SHUFFLED, "blur": BLUR}),
    (check_finest, {"book": SHUFFLED, "blur": BLUR, "table": FINEST, "tears": TEARS}),
    (words, {}), (check, {"claim": ("table", TABLE)}), (gather, {"book": TORN, "view": plain(TORN)}),
    (concluded, {"book": TORN, "view": plain(TORN), "claims": gather(TORN, plain(TORN))}),
]


class EveryFunctionTest(EveryCall, unittest.TestCase):
    calls = CALLS
    kinds = (Blocks, Free, NotFree, Fault, NoCheaper, Mended)

    def test_limits_of_bars_by_name(self):
        self.assertEqual(all_least_bars(TORN, view=plain(TORN), prices=PRICES, most=14), all_least_bars(TORN, plain(TORN), PRICES))
        self.assertEqual(least_bars(TORN, plain(TORN), PRICES, most=0).bars, None)

    def test_answers_keep_no_dicts_of_arguments(self):
        table = judge(SHUFFLED, own_desks(SHUFFLED))
        found = weaves(table)
        before = written(found.starts), written(found.outer)
        for told in (table.rows, table.ways, table.ranks):
            told.clear()
        self.assertEqual((written(found.starts), written(found.outer)), before)
        prices, view = dict(PRICES), plain(TORN)
        mended = least_bars(TORN, view, prices)
        prices.clear()
        view.clear()
        self.assertTrue(check_no_cheaper(mended.paper))

    def test_papers_of_other_books(self):
        # The paper of one book does not prove another one's.
        other = least_bars(TORN, plain(TORN), {**PRICES, ("main", 0): 1}).paper
        self.assertTrue(check_no_cheaper(other))
        changed = NoCheaper(NEST, plain(NEST), other.prices, other.most, other.cost, other.nodes)
        self.assertFalse(check_no_cheaper(changed))


if __name__ == "__main__":
    unittest.main()
