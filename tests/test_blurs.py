"""[93]: blurs of deeds, and the finest ones by which a book is clear."""

import itertools
import random
import time
import unittest

import brute
from samples import DEAD, NEST, ORDER, TORN, course, do, full_book, one_course, tall
from stillowed.blurs import all_blurs, blur_view, check_finest, coarser, finest_blurs, finest_paper, just_finer
from stillowed.books import Book
from stillowed.errors import NoEnding, Refused
from stillowed.lengths import lengths, plain, ways
from stillowed.owed import OwedTable, TwoEndings, court
from stillowed.texts import book_of, read_courses
from test_coarse import wide_books
from test_desks import SHUFFLED, dealt_books, fault
from test_papers import table_with, two_with

LETTERS = "abcde"


def is_blur(blur):
    """Whether a tuple of pairs is a blur: each mark is empty or the first deed of its class."""
    classes = {}
    for deed, mark in blur:
        if mark:
            classes.setdefault(mark, deed)
    return all(mark == deed for mark, deed in classes.items())


def slow_blurs(deeds):
    found = []
    for marks in itertools.product(("",) + tuple(deeds), repeat=len(deeds)):
        blur = tuple(zip(deeds, marks))
        if is_blur(blur) and all(not mark or mark <= deed for deed, mark in blur):
            found.append(blur)
    return sorted(found)


def slow_coarser(one, other):
    first, second = dict(one), dict(other)
    for deed in first:
        if second[deed] == "" and first[deed] != "":
            return False
    for a, b in itertools.combinations(sorted(first), 2):
        if second[a] != "" and second[a] == second[b]:
            if not (first[a] == "" and first[b] == "") and not (first[a] != "" and first[a] == first[b]):
                return False
    return True


def is_clear(book, blur):
    return isinstance(court(book, blur_view(blur)), OwedTable)


class BlursTest(unittest.TestCase):
    def test_all_blurs(self):
        self.assertEqual(all_blurs(()), ((),))
        self.assertEqual(all_blurs(("a",)), ((("a", ""),), (("a", "a"),)))
        self.assertEqual(all_blurs(("a", "b")), ((("a", ""), ("b", "")), (("a", ""), ("b", "b")), (("a", "a"), ("b", "")),
                                                 (("a", "a"), ("b", "a")), (("a", "a"), ("b", "b"))))
        for many, wanted in enumerate((1, 2, 5, 15, 52, 203)):
            found = all_blurs(tuple(LETTERS[:many]))
            self.assertEqual(len(found), wanted)
            self.assertEqual(list(found), slow_blurs(LETTERS[:many]))
        # Ascending as Python compares, whatever the names.
        found = all_blurs(("aa", "b", "bb"))
        self.assertEqual(list(found), sorted(found))

    def test_views(self):
        self.assertEqual(blur_view((("a", "a"), ("b", ""), ("c", "a"))), {"a": ("a",), "b": (), "c": ("a",)})
        self.assertEqual(blur_view(()), {})
        self.assertEqual(len(blur_view(tuple((letter, letter) for letter in "abcdefgh"))), 8)

    def test_coarser(self):
        for one, other, wanted in (((("a", ""), ("b", "")), (("a", "a"), ("b", "a")), True), ((("a", "a"), ("b", "a")), (("a", "a"), ("b", "b")), True),
                                   ((("a", ""), ("b", "b")), (("a", "a"), ("b", "a")), False), ((("a", "a"), ("b", "")), (("a", ""), ("b", "")), False),
                                   ((("a", ""), ("b", "b")), (("a", "a"), ("b", "b")), True), ((), (), True)):
            self.assertIs(coarser(one, other), wanted)
        blurs = all_blurs(tuple("abcd"))
        for one in blurs:
            for other in blurs:
                self.assertIs(coarser(one, other), slow_coarser(one, other))
        many = tuple((letter, letter) for letter in "abcdefgh")
        self.assertTrue(coarser(tuple((letter, "") for letter in "abcdefgh"), many))

    def test_just_finer(self):
        self.assertEqual(just_finer((("a", "a"), ("b", "a"))), ((("a", "a"), ("b", "b")),))
        self.assertEqual(just_finer((("a", ""), ("b", ""))), ((("a", ""), ("b", "b")), (("a", "a"), ("b", "")), (("a", "a"), ("b", "a"))))
        self.assertEqual(just_finer((("a", "a"), ("b", "b"))), ())
        self.assertEqual(just_finer(()), ())
        for many in range(1, 5):
            blurs = all_blurs(tuple(LETTERS[:many]))
            for blur in blurs:
                wanted = [other for other in blurs if self.is_just_finer(dict(blur), dict(other))]
                self.assertEqual(just_finer(blur), tuple(wanted))

    def is_just_finer(self, blur, other):
        """Whether one class is split into two, or some hidden deeds become one class."""
        hidden = {deed for deed in blur if not blur[deed]}
        shown = {deed for deed in hidden if other[deed]}
        if any(blur[deed] and not other[deed] for deed in blur):
            return False
        rest = [deed for deed in blur if blur[deed]]
        classes = len({blur[deed] for deed in rest})
        kept = all((blur[a] == blur[b]) or (other[a] != other[b]) for a in rest for b in rest)
        if shown:
            same = all((blur[a] == blur[b]) == (other[a] == other[b]) for a in rest for b in rest)
            apart = all(other[a] != other[b] for a in shown for b in rest)
            return same and apart and len({other[deed] for deed in shown}) == 1
        return kept and len({other[deed] for deed in rest}) == classes + 1

    def test_more_than_five_deeds(self):
        six = tuple((letter, letter) for letter in "abcdef")
        book = one_course(2, (1,), *[do(0, letter, 1) for letter in "abcdef"])
        dead = one_course(2, (), *[do(0, letter, 1) for letter in "abcdef"])
        table = court(one_course(2, (1,), do(0, "a", 1)), {"a": ("a",)})
        for function, told in ((all_blurs, (tuple("abcdef"),)), (just_finer, (six,)), (finest_blurs, (book,)), (finest_blurs, (dead,)),
                               (finest_paper, (book, six)), (finest_paper, (dead, six)), (check_finest, (book, six, table, ()))):
            self.assertEqual(fault(self, function, *told), (Refused, "wide"))


class FinestTest(unittest.TestCase):
    def test_the_example(self):
        self.assertEqual(finest_blurs(book_of(read_courses("main: a b | b a"))), (
            (("a", ""), ("b", "b")), (("a", "a"), ("b", "")), (("a", "a"), ("b", "a"))))

    def test_small_books(self):
        self.assertEqual(finest_blurs(NEST), ((("a", "a"), ("b", "b"), ("c", "c")),))
        self.assertEqual(finest_blurs(one_course(1, (0,))), ((),))
        self.assertEqual(finest_paper(one_course(1, (0,)), ())[1], ())
        table, tears = finest_paper(SHUFFLED, (("a", "a"), ("b", "a")))
        self.assertEqual(vars(table), vars(court(SHUFFLED, {"a": ("a",), "b": ("a",)})))
        self.assertEqual([blur for blur, _ in tears], [(("a", "a"), ("b", "b"))])
        self.assertEqual(vars(tears[0][1]), vars(court(SHUFFLED, plain(SHUFFLED))))
        self.assertIsNone(finest_paper(SHUFFLED, (("a", ""), ("b", ""))))
        self.assertIsNone(finest_paper(SHUFFLED, (("a", "a"), ("b", "b"))))
        self.assertTrue(check_finest(SHUFFLED, (("a", "a"), ("b", "a")), table, tears))

    def test_random_books(self):
        seen = {}
        books = [book for book, _ in dealt_books(931, 120)] + wide_books(932, 4, "abcde")
        for book in books:
            if len(book.deeds()) > 5:
                continue
            blurs = all_blurs(book.deeds())
            clear = [blur for blur in blurs if is_clear(book, blur)]
            wanted = [blur for blur in clear if not any(blur != other and slow_coarser(blur, other) for other in clear)]
            self.assertEqual(finest_blurs(book), tuple(wanted))
            seen.setdefault(len(book.deeds()), set()).add(len(wanted))
            for blur in blurs[::7] + tuple(wanted):
                paper = finest_paper(book, blur)
                self.assertEqual(paper is not None, blur in wanted)
                if paper is not None:
                    table, tears = paper
                    self.assertEqual(vars(table), vars(court(book, blur_view(blur))))
                    self.assertEqual(tuple(other for other, _ in tears), just_finer(blur))
                    for other, two in tears:
                        self.assertEqual(vars(two), vars(court(book, blur_view(other))))
                    self.assertIs(check_finest(book, blur, table, tears), True)
        self.assertTrue({1, 2, 3, 4, 5} <= set(seen))
        self.assertTrue(any(len(many) > 1 for many in seen.values()))

    def test_errors_in_order(self):
        for function in (finest_blurs, lambda book: finest_paper(book, (("a", "a"),))):
            self.assertEqual(fault(self, function, DEAD), (NoEnding, ("main", 0)))
        huge = tall((8, 8, 8, 8, 7, 7, 7, 7))
        self.assertEqual(fault(self, finest_blurs, huge), (Refused, "long"))
        self.assertEqual(fault(self, finest_paper, huge, (("x", "x"),)), (Refused, "long"))
        # It asks by the blur, then by the just finer ones up to the first clear one.
        self.assertEqual(fault(self, finest_paper, huge, (("x", ""),)), (Refused, "long"))
        torn = Book((course("main", 3, (1, 2), do(0, "p", 1), do(0, "q", 2)),) + tall((8, 8, 8, 8, 7, 7, 7)).courses)
        self.assertIsNone(finest_paper(torn, (("p", "p"), ("q", "q"), ("x", ""))))
        self.assertEqual(fault(self, finest_paper, torn, (("p", ""), ("q", ""), ("x", ""))), (Refused, "long"))
        early = Book(tuple((name, many, ends, tuple((a, kind, "a" if word == "x" else word, b) for a, kind, word, b in steps))
                           for name, many, ends, steps in torn.courses))
        self.assertIsNone(finest_paper(early, (("a", ""), ("p", ""), ("q", ""))))
        self.assertEqual(fault(self, finest_paper, torn, (("p", "p"), ("q", "p"), ("x", ""))), (Refused, "long"))
        self.assertEqual(fault(self, finest_paper, torn, (("p", "p"), ("q", "p"), ("x", "x"))), (Refused, "long"))


class CheckTest(unittest.TestCase):
    def setUp(self):
        self.book = book_of(read_courses("main: a b c | b a c"))
        self.blur = (("a", "a"), ("b", "a"), ("c", "a"))
        self.assertIsNone(finest_paper(self.book, self.blur))
        self.blur = (("a", "a"), ("b", "a"), ("c", "c"))
        self.table, self.tears = finest_paper(self.book, self.blur)

    def test_each_condition(self):
        book, blur, table, tears = self.book, self.blur, self.table, self.tears
        self.assertEqual(len(tears), 1)
        self.assertTrue(check_finest(book, blur, table, tears))
        (finer, two), = tears
        other = court(book, blur_view((("a", "a"), ("b", "b"), ("c", ""))))
        self.assertIsInstance(other, TwoEndings)
        for told in (((),), (tears + tears,), (((blur, two),),), (((finer, other),),), (((finer, two_with(two, trail=None)),),),
                     (((finer, two_with(two, one=two.other)),),), (((finer, two_with(two, lengths={})),),)):
            self.assertIs(check_finest(book, blur, table, *told), False, told)
        for changed in (table_with(table, view={**table.view, "z": ()}), table_with(table, view=plain(book)),
                        table_with(table, book=SHUFFLED), table_with(table, ranks={}),
                        table_with(table, rows={**table.rows, ("main", 0): ()})):
            self.assertIs(check_finest(book, blur, changed, tears), False)
        self.assertTrue(check_finest(book, blur, table_with(table, ranks={key: rank + 2 for key, rank in table.ranks.items()}), tears))
        self.assertFalse(check_finest(SHUFFLED, blur, table, tears))

    def test_tears_left_out_exchanged_and_changed(self):
        book = book_of(read_courses("main: a b c | c b a"))
        seen = 0
        for blur in finest_blurs(book):
            table, tears = finest_paper(book, blur)
            self.assertTrue(check_finest(book, blur, table, tears))
            for at in range(len(tears)):
                self.assertFalse(check_finest(book, blur, table, tears[:at] + tears[at + 1:]))
                seen += 1
            if len(tears) > 1:
                self.assertFalse(check_finest(book, blur, table, tears[::-1]))
                (one, first), (two, second) = tears[:2]
                self.assertFalse(check_finest(book, blur, table, ((two, first), (one, second)) + tears[2:]))
                mixed = ((one, second), (two, first)) + tears[2:]
                self.assertEqual(check_finest(book, blur, table, mixed),
                                 check_finest(book, blur, table, ((one, second),) + tears[1:])
                                 and check_finest(book, blur, table, tears[:1] + ((two, first),) + tears[2:]))
        self.assertGreater(seen, 5)

    def test_a_clear_blur_that_is_not_finest(self):
        blur = (("a", ""), ("b", ""), ("c", ""))
        table = court(self.book, blur_view(blur))
        tears = tuple((finer, court(self.book, blur_view(finer))) for finer in just_finer(blur))
        self.assertTrue(any(isinstance(two, OwedTable) for _, two in tears))
        torn = [pair for pair in tears if isinstance(pair[1], TwoEndings)]
        self.assertFalse(check_finest(self.book, blur, table, tuple(torn)))

    def test_errors_of_check_two(self):
        torn = Book((course("main", 3, (1, 2), do(0, "p", 1), do(0, "q", 2)),) + tall((8, 8, 8, 8, 7, 7, 7)).courses)
        blur = (("p", "p"), ("q", "p"), ("x", ""))
        table = court(torn, blur_view(blur))
        tears = []
        for finer in just_finer(blur):
            view = blur_view(finer)
            tears.append((finer, TwoEndings(("main", 0), ((),), lengths(torn, view), ways(torn, view), ("p",), ("q",))))
        self.assertEqual(fault(self, check_finest, torn, blur, table, tuple(tears)), (Refused, "long"))
        self.assertIs(check_finest(torn, blur, table, tuple(tears[::-1])), False)


class CoarserBooksTest(unittest.TestCase):
    def test_clear_by_each_coarser_blur(self):
        pairs = 0
        for book, _ in dealt_books(933, 100):
            if len(book.deeds()) > 4:
                continue
            blurs = all_blurs(book.deeds())
            clear = {blur for blur in blurs if is_clear(book, blur)}
            for blur in clear:
                for other in blurs:
                    if coarser(other, blur):
                        self.assertIn(other, clear)
                        pairs += 1
        self.assertGreater(pairs, 500)


class LimitsTest(unittest.TestCase):
    def test_at_the_limits(self):
        began = time.time()
        rng = random.Random(934)
        book = full_book(rng)
        words = dict(zip(sorted(book.deeds()), "abcdeabcdeab"))
        few = Book(tuple((name, many, ends, tuple(dict.fromkeys(
            (a, kind, words[word] if kind == "do" else word, b) for a, kind, word, b in steps)))
            for name, many, ends, steps in book.courses))
        self.assertEqual(len(few.deeds()), 5)
        for blur in finest_blurs(few):
            table, tears = finest_paper(few, blur)
            self.assertTrue(check_finest(few, blur, table, tears))
        self.assertLess(time.time() - began, 20)
        self.assertTrue(finest_blurs(TORN))
        self.assertTrue(finest_blurs(ORDER))


if __name__ == "__main__":
    unittest.main()
