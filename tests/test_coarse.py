"""[43], [44]: lots of deeds that one desk can have, and the coarsest dealings."""

import itertools
import random
import time
import unittest

import brute
from samples import DEAD, NEST, ORDER, TORN, course, do, full_book, one_course, tall
from stillowed.books import Book
from stillowed.coarse import Blocks, check_blocks, clear_blocks, coarsest, is_block
from stillowed.dealings import dealing_of, is_finer, own_desks
from stillowed.desks import is_clear_by
from stillowed.errors import NoEnding, Refused
from stillowed.lengths import plain
from stillowed.met import met
from stillowed.owed import OwedTable, TwoEndings, court
from stillowed.texts import book_of, read_courses
from test_desks import APART, SHUFFLED, dealt_books, fault
from test_papers import table_with, two_with


def lots(deeds):
    return [lot for many in range(1, len(deeds) + 1) for lot in itertools.combinations(deeds, many)]


def view_of(book, lot):
    return {deed: (deed,) if deed in lot else () for deed in book.deeds()}


def partitions(deeds):
    if not deeds:
        return [()]
    found = []
    for rest in partitions(deeds[1:]):
        found.append(((deeds[0],),) + rest)
        found.extend(rest[:at] + ((deeds[0],) + lot,) + rest[at + 1:] for at, lot in enumerate(rest))
    return found


class BlocksTest(unittest.TestCase):
    def test_small_books(self):
        blocks = clear_blocks(SHUFFLED)
        self.assertIsInstance(blocks, Blocks)
        self.assertEqual([lot for lot, _ in blocks.faces], [("a",), ("b",)])
        self.assertEqual([lot for lot, _ in blocks.walls], [("a", "b")])
        for lot, table in blocks.faces:
            self.assertEqual(vars(table), vars(court(SHUFFLED, view_of(SHUFFLED, lot))))
        self.assertEqual(vars(blocks.walls[0][1]), vars(court(SHUFFLED, plain(SHUFFLED))))
        self.assertEqual([is_block(blocks, lot) for lot in (("a",), ("b",), ("a", "b"), ())], [True, True, False, True])
        blocks = clear_blocks(ORDER)
        self.assertEqual(([lot for lot, _ in blocks.faces], blocks.walls), ([ORDER.deeds()], ()))
        self.assertTrue(all(is_block(blocks, lot) for lot in lots(ORDER.deeds())))
        empty = one_course(1, (0,))
        self.assertEqual(vars(clear_blocks(empty)), {"faces": (), "walls": ()})
        self.assertEqual(coarsest(empty), ((),))
        self.assertFalse(is_block(clear_blocks(empty), ("a",)))

    def test_books_of_one_to_six_deeds(self):
        sizes = {}
        for book in [book for book, _ in dealt_books(431, 100)] + wide_books(432, 8, "abcdef") + wide_books(433, 8, "abcde"):
            blocks = clear_blocks(book)
            clear = {lot: isinstance(court(book, view_of(book, lot)), OwedTable) for lot in lots(book.deeds())}
            faces = [lot for lot in clear if clear[lot] and not any(
                clear[other] and set(lot) < set(other) for other in clear)]
            walls = [lot for lot in clear if not clear[lot] and all(
                clear[other] for other in clear if set(other) < set(lot))]
            self.assertEqual([lot for lot, _ in blocks.faces], list(brute.in_order(faces)))
            self.assertEqual([lot for lot, _ in blocks.walls], list(brute.in_order(walls)))
            for lot, verdict in blocks.faces + blocks.walls:
                self.assertEqual(vars(verdict), vars(court(book, view_of(book, lot))))
            for lot in clear:
                self.assertEqual(is_block(blocks, lot), clear[lot])
            self.assertIs(check_blocks(book, blocks), True)
            sizes.setdefault(len(book.deeds()), set()).add(len(walls))
        self.assertTrue(set(sizes) >= {1, 2, 3, 4, 5, 6})
        self.assertGreater(len(sizes[6]), 1)

    def test_errors(self):
        for function in (clear_blocks, coarsest, lambda book: check_blocks(book, None)):
            self.assertEqual(fault(self, function, DEAD), (NoEnding, ("main", 0)))
        seven = one_course(2, (1,), *[do(0, letter, 1) for letter in "abcdefg"])
        dead = one_course(2, (), *[do(0, letter, 1) for letter in "abcdefg"])
        huge = tall((8, 8, 8, 8, 7, 7, 7, 7))
        for function in (clear_blocks, coarsest):
            self.assertEqual(fault(self, function, seven), (Refused, "wide"))
            self.assertEqual(fault(self, function, dead), (NoEnding, ("main", 0)))
            self.assertEqual(fault(self, function, huge), (Refused, "long"))
        long_seven = Book((course("m", 2, (1,), *[do(0, letter, 1) for letter in "abcdefg"]),) + tall((8, 8, 8, 8, 7, 7, 7)).courses)
        self.assertEqual(fault(self, clear_blocks, long_seven), (Refused, "wide"))
        self.assertIs(check_blocks(seven, None), False)


def wide_books(seed, many, letters):
    """Books with these deeds, in a few orders."""
    rng = random.Random(seed)
    found = []
    for _ in range(many):
        lines = []
        for _ in range(rng.randint(1, 3)):
            line = list(letters)
            for _ in range(rng.randint(0, 3)):
                at = rng.randrange(len(line) - 1)
                line[at], line[at + 1] = line[at + 1], line[at]
            lines.append(" ".join(line))
        found.append(book_of(read_courses("main: " + " | ".join(lines))))
    return found


class CheckTest(unittest.TestCase):
    def test_each_condition(self):
        book = book_of(read_courses("main: a b c | b a c"))
        right = clear_blocks(book)
        self.assertEqual([lot for lot, _ in right.faces], [("a", "c"), ("b", "c")])
        self.assertEqual([lot for lot, _ in right.walls], [("a", "b")])
        (one, first), (other, second) = right.faces
        (lot, two), = right.walls
        small = court(book, view_of(book, ("a",)))
        more = table_with(first, ranks={key: rank + 7 for key, rank in first.ranks.items()})
        for faces, walls, wanted in (
                (right.faces, right.walls, True), (((one, more), (other, second)), right.walls, True),
                (right.faces[::-1], right.walls, False), (right.faces[:1], right.walls, False), ((), right.walls, False),
                (right.faces, (), False), ((), (), False), (right.faces + right.faces[1:], right.walls, False),
                (((("a",), small),) + right.faces, right.walls, False),
                (((one, second), (other, first)), right.walls, False), (((one, two), (other, second)), right.walls, False),
                (right.faces, ((lot, first),), False), (right.faces, ((("a", "c"), two),), False),
                (right.faces, right.walls + ((("a", "b", "c"), court(book, plain(book))),), False),
                (right.faces, ((("b", "a"), two),), False), (right.faces, ((lot, two_with(two, trail=None)),), False),
                (right.faces, ((lot, two_with(two, other=two.one)),), False),
                (((one, table_with(first, ranks={})), (other, second)), right.walls, False),
                (((one, table_with(first, view=plain(book))), (other, second)), right.walls, False),
                (((one, table_with(first, book=ORDER)), (other, second)), right.walls, False),
                (((("a", "c", "z"), first), (other, second)), right.walls, False),
                ((((), first),) + right.faces, right.walls, False)):
            self.assertIs(check_blocks(book, Blocks(faces, walls)), wanted, (faces, walls))

    def test_tables_of_just_the_met_stages(self):
        book = Book((course("m", 2, (1,), do(0, "a", 1)), course("z", 1, (0,))))
        (lot, table), = clear_blocks(book).faces
        more = table_with(table, rows={**table.rows, ("z", 0): ()}, ways={**table.ways, ("z", 0): ("end",)},
                          ranks={**table.ranks, ("z", 0): 0})
        self.assertTrue(check_blocks(book, Blocks(((lot, table),), ())))
        self.assertFalse(check_blocks(book, Blocks(((lot, more),), ())))

    def test_other_two_endings(self):
        book = Book((course("main", 4, (1, 2, 3), do(0, "a", 1), do(0, "b", 2), do(0, "c", 3)),))
        right = clear_blocks(book)
        walls = dict(right.walls)
        self.assertEqual(list(walls), [("a", "b", "c")])
        two = walls[("a", "b", "c")]
        self.assertTrue(check_blocks(book, Blocks(right.faces, ((("a", "b", "c"), two_with(two, other=("c",))),))))

    def test_any_values(self):
        for value in brute.ODD_VALUES + [Blocks, court(ORDER, plain(ORDER))]:
            self.assertIs(check_blocks(ORDER, value), False)
            self.assertIs(check_blocks(SHUFFLED, value), False)

    def test_more_than_six_deeds_can_be_checked(self):
        seven = one_course(8, (7,), *[do(n, letter, n + 1) for n, letter in enumerate("abcdefg")])
        table = court(seven, plain(seven))
        self.assertTrue(check_blocks(seven, Blocks(((seven.deeds(), table),), ())))
        self.assertFalse(check_blocks(seven, Blocks(((seven.deeds()[1:], table),), ())))


class CoarsestTest(unittest.TestCase):
    def test_small_books(self):
        self.assertEqual(coarsest(SHUFFLED), ((("a", "a"), ("b", "b")),))
        self.assertEqual(coarsest(APART), ())
        self.assertEqual(coarsest(TORN), ())
        self.assertEqual(coarsest(NEST), ((("a", "a"), ("b", "a"), ("c", "a")),))
        self.assertEqual(coarsest(book_of(read_courses("main: a b c | b a c"))), (
            (("a", "a"), ("b", "b"), ("c", "a")), (("a", "a"), ("b", "b"), ("c", "b"))))

    def test_random_books(self):
        seen = {}
        for book in [book for book, _ in dealt_books(441, 120)] + wide_books(442, 3, "abcdef"):
            found = coarsest(book)
            clear = [dealing_of(parts) for parts in partitions(book.deeds()) if is_clear_by(book, dealing_of(parts))] \
                if len(book.deeds()) < 5 or is_clear_by(book, own_desks(book)) else []
            wanted = [one for one in clear if not any(one != other and is_finer(one, other) for other in clear)]
            self.assertEqual(found, tuple(sorted(wanted)))
            seen[min(len(found), 2)] = seen.get(min(len(found), 2), 0) + 1
        self.assertEqual(sorted(seen), [0, 1, 2])

    def test_errors_of_judge(self):
        # The blocks are found, but not whether there is an ending with the fewest of each deed.
        sizes = (("a", 20), ("b", 20), ("c", 10))
        made = []
        for at, (name, many) in enumerate(sizes):
            onward = [do(n, "x", n + 1) if name == "c" else (n, "call", sizes[at + 1][0], n + 1) for n in range(many - 1)]
            made.append(course(name, many, (many - 1,), *onward, *[do(n, "z", many - 1) for n in range(many - 1)]))
        book = Book(tuple(made))
        self.assertEqual([lot for lot, _ in clear_blocks(book).faces], [("x",), ("z",)])
        self.assertEqual(fault(self, coarsest, book), (Refused, "long"))


class LimitsTest(unittest.TestCase):
    def test_at_the_limits(self):
        began = time.time()
        rng = random.Random(443)
        for _ in range(2):
            book = full_book(rng)
            words = dict(zip(sorted(book.deeds()), "abcdefabcdef"))
            few = Book(tuple((name, many, ends, tuple(dict.fromkeys(
                (a, kind, words[word] if kind == "do" else word, b) for a, kind, word, b in steps)))
                for name, many, ends, steps in book.courses))
            self.assertEqual(len(few.deeds()), 6)
            self.assertTrue(check_blocks(few, clear_blocks(few)))
            coarsest(few)
            self.assertTrue(met(few))
        self.assertLess(time.time() - began, 10)


if __name__ == "__main__":
    unittest.main()
