"""[10], [11], [13]: texts of courses, and the books that they describe."""

import itertools
import random
import re
import unittest

import brute
from brute import ODD_VALUES
from stillowed.books import Book
from stillowed.errors import InvalidBook, InvalidText
from stillowed.expressions import normal, rows_of
from stillowed.texts import book_of, read_courses, show_courses


def deed(name):
    return ("deed", name)


def is_text(text):
    """Whether a string is a text of courses (with brackets that are not too deep), by striking out what is right."""
    return all(is_course_line(line) for line in text.split("\n"))


def is_course_line(line):
    if re.search("[a-z]{6}|[^][a-z(){}<>|: -]", line):
        return False
    head, colon, tail = line.partition(":")
    if not colon or not re.fullmatch(" *[a-z]+ *", head):
        return False
    tail = re.sub("[a-z]+", "-", re.sub(r"\( *[a-z]+ *\)", "-", tail)).replace(" ", "")
    before = None
    while before != tail:
        before = tail
        tail = re.sub("-+", "-", tail)
        tail = re.sub(r"-(\|-)+", "-", tail)
        tail = re.sub(r"\[-\]|\{-\}|<->", "-", tail)
    return tail == "-"


def least_wrong(text, texts):
    """The least index of a text with which no text goes on, by a list of all beginnings of texts."""
    for at in range(len(text)):
        if text[:at + 1] not in texts:
            return at
    return len(text)


def begun_texts(signs, most):
    """All strings of at most so many of these signs that some text begins with: a few more signs are always enough."""
    tails = ["", "-", ":-", "a:-", "a)", ")", "]", "-]", "a)]", "}", "-}", ">", "->", "a)}", "a)>"]
    found = {""}
    level = [""]
    for _ in range(most):
        level = [text + sign for text in level for sign in signs]
        level = [text for text in level if any(is_text(text + tail + close) for tail in tails
                                               for close in ("", "]", "]]", "}", "}}", ">", "]}", "}]", ">]", "]>"))]
        found.update(level)
    return found


class ReadTest(unittest.TestCase):
    def wrong(self, text, at):
        with self.assertRaises(InvalidText) as caught:
            read_courses(text)
        self.assertEqual(caught.exception.at, at, text)

    def test_each_sign(self):
        self.assertEqual(read_courses("pay: card|<card> stamp"),
                         (("pay", ("either", (deed("card"), ("seq", (deed("card"), deed("stamp")))))),))
        self.assertEqual(read_courses("a:-"), (("a", ("nothing",)),))
        self.assertEqual(read_courses("a:(b)"), (("a", ("call", "b")),))
        self.assertEqual(read_courses("a:[b]"), (("a", ("maybe", deed("b"))),))
        self.assertEqual(read_courses("a:{b}"), (("a", ("again", deed("b"))),))
        self.assertEqual(read_courses("a:b c|d"),
                         (("a", ("either", (("seq", (deed("b"), deed("c"))), deed("d")))),))
        self.assertEqual(read_courses("a:b-(c)[d]{e}<f|g>")[0][1][1],
                         (deed("b"), ("nothing",), ("call", "c"), ("maybe", deed("d")), ("again", deed("e")),
                          ("either", (deed("f"), deed("g")))))
        self.assertEqual(read_courses("a:b\nc:d\na:e"), (("a", deed("b")), ("c", deed("d")), ("a", deed("e"))))

    def test_blanks_and_needless_brackets(self):
        plain = read_courses("main:a(x)b|[c]{d}\nx:-")
        self.assertEqual(read_courses("  main  :  a  ( x )  b |  [ c ]  { d  }  \n  x :  -  "), plain)
        self.assertEqual(read_courses("main:<<a>(x)>b|<<[<c>]<{d}>>>\nx:<<->>"), plain)
        self.assertEqual(read_courses("main:<a(x)b>|<[c]{d}>\nx:-"), plain)
        self.assertEqual(read_courses("m:<a|b>|c"), read_courses("m:a|b|c"))
        self.assertEqual(read_courses("m:[<a b>] <c <d e>>")[0][1],
                         ("seq", (("maybe", ("seq", (deed("a"), deed("b")))), deed("c"), deed("d"), deed("e"))))
        rng = random.Random(1)
        for _ in range(200):
            courses = brute.random_courses(rng, ["main", "kit"])
            signs = re.findall("[a-z]+|.|\n", show_courses(courses))
            text = "".join(sign + " " * rng.randint(0, 2) if sign != " " else " " for sign in signs)
            self.assertEqual(read_courses(text), read_courses(show_courses(courses)))

    def test_wrong_signs(self):
        for text, at in (("", 0), (" ", 1), ("a", 1), ("a:", 2), ("a: ", 3), ("A:b", 0), ("a b", 2), ("a;b", 1),
                         ("a:b:", 3), (":a", 0), ("a:|b", 2), ("a:b|", 4), ("a:b||c", 4), ("a:()", 3), ("a:(b c)", 5),
                         ("a:(b", 4), ("a:((b))", 3), ("a:[]", 3), ("a:[b}", 4), ("a:b]", 3), ("a:<b|>", 5),
                         ("a:{b", 4), ("a:b\n", 4), ("a:b\n\nc:d", 4), ("\na:b", 0), ("a:b\n c", 6), ("a:[b\nc:d]", 4),
                         ("a:abcdef", 7), ("abcdef:a", 5), ("a:(abcdef)", 8), ("a:b~", 3), ("a:1", 2), ("a:b\tc", 3),
                         ("a:-\n", 4), ("a:b  \n  ", 8), ("a:B", 2), ("a:\u00e9", 2), ("a:b c:d", 5), ("a:b\r\n", 3),
                         ("a:- -)", 5), ("a:b\nb:", 6), ("a\n:b", 1), ("a:\n", 2), ("a(b)", 1), ("(a):b", 0)):
            self.wrong(text, at)

    def test_names_side_by_side(self):
        self.assertEqual(read_courses("m:ab cd")[0][1], ("seq", (deed("ab"), deed("cd"))))
        self.assertEqual(read_courses("m:abcde fghij")[0][1], ("seq", (deed("abcde"), deed("fghij"))))
        self.assertEqual(read_courses("m:a(b)c")[0][1], ("seq", (deed("a"), ("call", "b"), deed("c"))))
        self.wrong("m:abcdefghij", 7)

    def test_depth(self):
        for left, right in ("[]", "{}", "<>"):
            deep = left * 12 + "a" + right * 12
            self.assertEqual(len(read_courses("m:" + deep + deep + "\nk:" + deep)), 2)
            self.wrong("m:" + left * 13 + "a" + right * 13, 14)
            self.wrong("m:" + deep + left * 13, 2 + 25 + 12)
        mixed = "[{<" * 4
        self.wrong("m:" + mixed + "(a)" + "[", 2 + 12 + 3)
        self.assertEqual(read_courses("m:" + mixed + "(a)" + ">}]" * 4)[0][0], "m")
        self.wrong("m:" + mixed, 14)

    def test_no_strings(self):
        for value in ODD_VALUES:
            if not isinstance(value, str):
                self.wrong(value, -1)

    def test_against_all_short_texts(self):
        signs = "a:-|[(]\n "
        texts = begun_texts(signs, 5)
        for many in range(1, 6):
            for told in itertools.product(signs, repeat=many):
                text = "".join(told)
                try:
                    read_courses(text)
                    self.assertTrue(is_text(text), text)
                except InvalidText as error:
                    self.assertEqual(error.at, least_wrong(text, texts), text)
                    self.assertFalse(is_text(text), text)

    def test_texts_cut_and_changed(self):
        rng = random.Random(4)
        for _ in range(150):
            text = show_courses(brute.random_courses(rng, ["main", "abcde"]))
            for at in range(len(text)):
                if not is_text(text[:at]):
                    self.wrong(text[:at], at)
                self.wrong(text[:at] + "?" + text[at:], at)

    def test_long_texts(self):
        text = "\n".join(["m:" + "a b|" * 20000 + "c"] * 3)
        self.assertEqual(len(read_courses(text)[2][1][1]), 20001)


class ShowTest(unittest.TestCase):
    def test_written_form(self):
        text = "main: take <(pay) | - > [ send|b ] {c <d>|e}|<f>\npay :card"
        shown = "main: take <(pay) | -> [send | b] {c d | e} | f\npay: card"
        self.assertEqual(show_courses(read_courses(text)), shown)
        self.assertEqual(show_courses((("a", ("seq", (deed("x"), ("seq", (deed("y"), ("nothing",)))),)),)), "a: x y -")
        self.assertEqual(show_courses((("a", ("either", (deed("x"), ("either", (deed("y"), deed("z")))))),)),
                         "a: x | y | z")
        self.assertEqual(show_courses((("a", ("maybe", ("either", (deed("x"), deed("y"))))),)), "a: [x | y]")

    def test_read_back(self):
        rng = random.Random(2)
        for _ in range(400):
            courses = brute.random_courses(rng, ["main", "x", "kit"][:rng.randint(1, 3)], 3, "abc")
            text = show_courses(courses)
            self.assertEqual(read_courses(text), tuple((name, normal(part)) for name, part in courses))
            self.assertEqual(show_courses(read_courses(text)), text)
            self.assertNotIn("  ", text)

    def test_deep_expressions(self):
        deep = deed("a")
        for _ in range(99):
            deep = ("seq", (deed("b"), deep))
        self.assertEqual(show_courses((("m", deep),)), "m: " + "b " * 99 + "a")
        wide = deed("a")
        for _ in range(99):
            wide = ("either", (wide, deed("b")))
        self.assertEqual(show_courses((("m", wide),)), "m: a" + " | b" * 99)


class BookOfTest(unittest.TestCase):
    def of(self, text):
        return book_of(read_courses(text)).courses

    def test_each_kind(self):
        self.assertEqual(self.of("m:-"), (("m", 1, (0,), ()),))
        self.assertEqual(self.of("m:a"), (("m", 2, (1,), ((0, "do", "a", 1),)),))
        self.assertEqual(self.of("m:(m)"), (("m", 2, (1,), ((0, "call", "m", 1),)),))
        self.assertEqual(self.of("m:a b"), (("m", 3, (2,), ((0, "do", "a", 1), (1, "do", "b", 2))),))
        self.assertEqual(self.of("m:a|b"), (("m", 3, (1, 2), ((0, "do", "a", 1), (0, "do", "b", 2))),))
        self.assertEqual(self.of("m:[a]"), (("m", 2, (0, 1), ((0, "do", "a", 1),)),))
        self.assertEqual(self.of("m:{a}"), (("m", 2, (0, 1), ((0, "do", "a", 1), (1, "do", "a", 1))),))

    def test_nested_ones(self):
        self.assertEqual(self.of("pay: card | <card> stamp"),
                         (("pay", 4, (1, 3), ((0, "do", "card", 1), (0, "do", "card", 2), (2, "do", "stamp", 3))),))
        self.assertEqual(self.of("m:{a[b]|(m)}"), (("m", 4, (0, 1, 2, 3), (
            (0, "do", "a", 1), (0, "call", "m", 3), (1, "do", "a", 1), (1, "do", "b", 2), (1, "call", "m", 3),
            (2, "do", "a", 1), (2, "call", "m", 3), (3, "do", "a", 1), (3, "call", "m", 3))),))
        self.assertEqual(self.of("m:[a]{b}c[-]"), (("m", 4, (3,), (
            (0, "do", "a", 1), (0, "do", "b", 2), (0, "do", "c", 3), (1, "do", "b", 2), (1, "do", "c", 3),
            (2, "do", "b", 2), (2, "do", "c", 3))),))
        self.assertEqual(self.of("m:{{a}{b}}"), self.of("m:{[a]{b}}"))

    def test_against_rows_of_expressions(self):
        rng = random.Random(7)
        for _ in range(300):
            names = ["main", "x"][:rng.randint(1, 2)]
            courses = brute.random_courses(rng, names, 2)
            try:
                book = book_of(courses)
            except InvalidBook:
                continue
            rows, most = brute.expression_rows(courses, 4)
            found = brute.endings(book, 4)
            if most <= 1000:
                for name in names:
                    self.assertEqual(brute.in_order(found[(name, 0)]), rows_of(courses, name, 4))
            for _, stages, ends, steps in book.courses:
                self.assertEqual(list(steps), sorted(steps, key=lambda step: (step[0], step[3])))
                self.assertEqual(sorted({step[3] for step in steps}), [n for n in range(1, stages)])

    def test_wrong_books(self):
        for text, at in (("m:(k)", 0), ("m:a\nm:b", 1), ("m:a\nk:(q)\nj:(w)", 1), ("m:" + "a" + " a" * 19, 0),
                         ("m:a\nk:" + "-a" * 20, 1), ("m:(k)\nk:" + "-a" * 20, 1), ("m:(q)\nk:a\nk:b", 2),
                         ("\n".join(name + ":a" for name in "abcdefghi"), 8),
                         ("\n".join(name + ":" + "-a" * 19 for name in "abcd"), 3),
                         ("m:a b c d e f g h i j k l\nn:m", 1), ("m:" + "-a" * 5000, 0)):
            with self.assertRaises(InvalidBook) as caught:
                book_of(read_courses(text))
            self.assertEqual(caught.exception.at, at, text)
        with self.assertRaises(InvalidBook) as caught:
            book_of(())
        self.assertEqual(caught.exception.at, 0)
        self.assertEqual(self.of("m:" + "-a" * 19)[0][1], 20)
        self.assertIsInstance(book_of((("m", deed("a")),)), Book)

    def test_deep_expressions(self):
        deep = deed("a")
        for _ in range(99):
            deep = ("maybe", deep)
        self.assertEqual(book_of((("m", deep),)).courses, (("m", 2, (0, 1), ((0, "do", "a", 1),)),))


if __name__ == "__main__":
    unittest.main()
