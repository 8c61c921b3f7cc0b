"""The interface: each name in its file, with the parameters that the points give it."""

import importlib
import inspect
import unittest

FUNCTIONS = {
    "useful": "ranks(book) useless(book) check_ranks(book,table) check_useless(book,stages)",
    "endings": "endings(book,stage,size) nth_ending(book,stage,n) has_ending(book,stage,row)",
    "expressions": "normal(expression) rows_of(courses,name,size)",
    "lengths": "plain(book) lengths(book,view) ways(book,view) rows_along(book,view,chosen) chosen_rows(book,view) "
               "check_lengths(book,view,table,chosen)",
    "met": "met(book) run_to(book,stage) check_met(book,table)",
    "piles": "piles_of(book,seen,shown=()) check_piles(piles) links(piles) tops(piles) is_possible(piles,moment) "
             "run_like(piles,moment) may_be_over(piles) later_deeds(piles)",
    "rows": "check_row(row) in_order(rows) greatest_rows(rows) within(u,v) fits(u,v) first_fit(u,v) last_fit(u,v) "
            "common(u,v) common_all(rows) cover(u,v)",
    "tallies": "run_count(book,stage,moves) nth_run(book,stage,n) place_of_run(book,stage,run)",
    "bounds": "length_bound(book) tallest(counts)",
    "counts": "deed_counts(book,row) floors(book) goes_together(book,stage,lot) conflict(book,stage) "
              "least_counts(book) check_counts(book,table)",
    "dealings": "check_dealing(book,dealing) one_desk(book,*,desk='one') own_desks(book) desks_of(dealing) "
                "deeds_at(dealing,desk) desk_of(dealing,deed) part(dealing,desk,row) parts(dealing,row) "
                "within_by(dealing,u,v) same_by(dealing,u,v) view_at(dealing,desk) blocks_of(dealing) "
                "dealing_of(blocks) is_finer(one,other) common_finer(one,other)",
    "debts": "sites(table) debt(table,moment) greatest_debt(table) check_heights(table,heights,peak) "
             "check_ring(table,lap,base) soonest(table,wanted)",
    "ledger": "regret(table,moment,move) booked(table,run)",
    "lists": "row_by(view,row) least_rows(rows) row_products(lots) lists(book,view,*,most=60,longest=40) "
             "lists_to_depth(book,view,depth,*,most=60,longest=40) lists_by(table,view) lists_of(table,moment) "
             "count_of(table,moment)",
    "owed": "joined_row(book,view,rows,stage,k) looks(book,view,rows) court(book,view) tight(book,table) "
            "tight_run(book,table,moment)",
    "owing": "owes(table,row) rows_owed(table,size) count_rows(table,size) all_rows(table) owe_together(tables,numbers)",
    "prices": "least_prices(book,prices) price_ways(book,prices) counts_along(book,chosen) "
              "check_prices(book,prices,table,chosen) price_steps(counts,prices,place)",
    "corners": "corner(counts,at) corners(counts) check_corner(counts,at,value)",
    "woven": "owing_desks(table) weave(one,other) check_weave(one,other,value)",
    "changes": "barred(book,bars) new_numbers(book,bars) old_run(book,bars,run) with_steps(book,steps) "
               "with_ends(book,stages) lost(table,bars) needed(table) spare(table) brings(table,course,step) "
               "effect(table,course,step) may_put_in(table) may_end(table) greatest(table) change_to(table,book) "
               "bar_out(table,bars) put_in(table,course,step)",
    "notes": "note_plan(table,moments) check_plan(book,moments,rows,marks) old_note(row,deeds) old_book(row,deeds)",
    "papers": "check_table(table) check_two(book,view,two)",
    "resting": "stretches(table,run) free_run(table,movers,moment,goal) loaders(table,dealing,moment,gain) late_note(table)",
    "bars": "all_least_bars(book,view,prices,*,most=14) least_bars(book,view,prices,*,most=14) check_no_cheaper(paper)",
    "blurs": "blur_view(blur) all_blurs(deeds) coarser(one,other) just_finer(blur) finest_blurs(book) "
             "finest_paper(book,blur) check_finest(book,blur,table,tears)",
    "desks": "judge(book,dealing) is_clear_by(book,dealing) looks_by(book,dealing,rows) check_verdict(book,dealing,value)",
    "coarse": "clear_blocks(book) is_block(blocks,lot) check_blocks(book,value) coarsest(book)",
    "weaves": "is_weave(table,moment,row) weaves(table) starters(table) outside(table) run_of_weave(free,moment,row) "
              "check_weaves(table,value)",
    "checker": "words() check(claim) gather(book,view) concluded(book,view,claims)",
    "joined": "behind(one,other,name) either(one,other,name) behind_table(one,other,name) either_table(one,other,name) "
              "filled(one,deed,other) filled_table(one,deed,other)",
    "trails": "trail_to(book,stage) check_trail(book,stage,trail) trail_moment(book,trail) trail_run(book,trail)",
    "pairs": "holders(one,other) holds(one,other) swapped(book,course) meet(one,other) reached(one,other) "
             "is_shared(one,other,moment)",
    "single": "progress(book,view,row) lies_in_all(book,view,stage,row) counter(book,view,stage,row) "
              "owed_at(book,view,moment) owing(book,view)",
    "surely": "lowest(piles) sure(table,piles) check_sure(table,piles,value) unsure(table,piles,row) "
              "least_owing(table,piles) carried(table,seen,row,deed)",
    "tails": "tail_need(table,most) tail_pair(table,most,k) check_tail_pair(table,k,one,other) told_apart(table,most)",
    "texts": "read_courses(text) show_courses(courses) book_of(courses)",
    "unfold": "courses_of(book)",
    "bookings": "first_booking(table,run) check_booking(table,run,booking) payments(table,run,booking,since) "
                "many_bookings(table,run)",
    "compared": "compare(one,other) check_compared(one,other,value)",
    "depths": "debts_at(table,depth) deepest(table) least_depth(table,wanted) slope(table) "
              "check_slope(table,gain,span,heights,lap,base)",
    "givings": "check_giving(book,view,giving) giving_of(table,moments)",
    "held": "held(rows) held_of(table,moment) shares(table,moment,row) holds_in_all(table,moment,row) "
            "lacking(table,moment,row) lacking_all(table,moment,rows) fewest(table,moment,deed) stops(rows,row) "
            "check_stops(rows,row,paper)",
    "loads": "hidden(table) loading_steps(table) left_free(table,movers) loads(table,movers) "
             "check_loads(table,movers,heights) peak(table,movers,stage,wanted) load_at(table,movers,moment) "
             "loaded(table,movers,moment,gain)",
    "lookers": "known(table,piles) check_knowing(table,piles,value) tracking(table,seen) row_by_changes(tracked,shown)",
    "made": "made_book(book,making) put_books(book,parts) part_view(book,parts)",
    "makers": "makers(book,view,table) enough_depth(book,view,table) bearing(book,view,table) "
              "list_run(book,made,stage,place) check_lists(book,view,table,made)",
    "makings": "made_row(making,row) own_deeds(making) is_exact(making) couple(making) check_couple(making,u,v) "
               "needs(making,row) unmade(making,row)",
    "orders": "wrong_at(book,moment,row) next_deeds(book,moment,row) run_by(book,moment,row) spans(book,row) "
              "check_no(book,moment,row,triples) rests(table,moment,row)",
    "moments": "start(book) check_moment(book,moment) way_to(book,moment) all_moments(book,most) moves(book,moment) "
               "moved(book,moment,move) run_moments(book,run) deeds_of(book,run)",
}

CLASSES = {
    "errors": "StillError() InvalidRow(at) InvalidText(at) InvalidBook(at) InvalidMoment(at) InvalidMove(at) "
              "InvalidDealing(at) InvalidNumber(word) NoEnding(stage) Refused(word)",
    "books": "Book(courses)",
    "piles": "Piles(book,seen,shown,walks,frames)",
    "debts": "Heights(table,heights,peak) Ring(table,lap,base)",
    "ledger": "Ledger(table)",
    "surely": "Sure(rows,witnesses,holdings)",
    "compared": "Alike(leftovers) Parted(pile,one,other)",
    "depths": "Slope(table,gain,span,heights,lap,base)",
    "lookers": "Known(owes,places) Unknown(one,other) Tracked(basis,effects) Untracked(one,other)",
    "owed": "OwedTable(book,view,rows,chosen,ranks) TwoEndings(stage,trail,least,chosen,one,other)",
    "verdicts": "DealtTable(book,dealing,rows,ways,ranks) DeskSplit(desk,two) "
                "NeverTogether(stage,trail,tables,desk,one,other)",
    "corners": "Corner(prices) Mixed(shares)",
    "woven": "Woven(one,other,owing) Clash(desk,first,second,one,other)",
    "changes": "Change(book,word,table,two,changed,fresh,gone)",
    "live": "Live(book)",
    "bars": "Fault(place,first,second,numbers) NoCheaper(book,view,prices,most,cost,nodes) Mended(bars,cost,table,paper)",
    "coarse": "Blocks(faces,walls)",
    "weaves": "Free(table,starts,outer) NotFree(trail,pile,weave)",
}

METHODS = {
    ("books", "Book"): "names() main() index_of(name) ends(course) steps(course) steps_from(stage) is_end(stage) "
                       "is_stage(value) stages() calls() deeds() __eq__(other)",
    ("debts", "Ring"): "turned(times) times_for(wanted)",
    ("ledger", "Ledger"): "do(move) moment() moves_done() owed() debts() history(number) needless() longest_wait()",
    ("owed", "OwedTable"): "row(stage) owed(moment)",
    ("verdicts", "DealtTable"): "row(stage) part_at(desk,stage) owed(moment) parts_at(moment)",
    ("woven", "Woven"): "parts(first,second)",
    ("live", "Live"): "present() run() changes() do(move) put_course(course) put_step(name,step) bar_step(name,k) "
                      "put_end(stage) bar_end(stage) undo() moment() verdict() owed() ledger()",
}


def written(name, function, skipped=0):
    """A signature without blanks."""
    told = list(inspect.signature(function).parameters.values())[skipped:]
    parts = []
    for one in told:
        if one.kind is one.KEYWORD_ONLY and "*" not in parts:
            parts.append("*")
        parts.append(one.name if one.default is one.empty else f"{one.name}={one.default!r}")
    return f"{name}({','.join(parts)})"


class InterfaceTest(unittest.TestCase):
    def test_functions(self):
        for file, told in FUNCTIONS.items():
            module = importlib.import_module("stillowed." + file)
            for text in told.split():
                name = text.split("(")[0]
                function = getattr(module, name)
                self.assertTrue(inspect.isfunction(function), name)
                self.assertEqual(function.__module__, "stillowed." + file)
                self.assertEqual(written(name, function), text)

    def test_classes(self):
        for file, told in CLASSES.items():
            module = importlib.import_module("stillowed." + file)
            for text in told.split():
                name = text.split("(")[0]
                found = getattr(module, name)
                self.assertTrue(inspect.isclass(found), name)
                self.assertEqual(found.__module__, "stillowed." + file)
                if text != "StillError()":
                    self.assertIn("__init__", vars(found))
                    self.assertEqual(written(name, found.__init__, 1), text)

    def test_methods(self):
        for (file, name), told in METHODS.items():
            found = getattr(importlib.import_module("stillowed." + file), name)
            for text in told.split():
                word = text.split("(")[0]
                self.assertIn(word, vars(found), "defined in the class itself")
                self.assertEqual(written(word, vars(found)[word], 1), text)


if __name__ == "__main__":
    unittest.main()
