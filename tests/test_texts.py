"""[7] Texts of books."""

import unittest

from asmany.books import Book
from asmany.errors import InvalidText
from asmany.texts import read_book, show_book
from plain import STRANGE, Case, some_books


class Texts(Case):

    def test_examples(self):
        book = read_book(" c,1 a\nc , 2  b")
        self.assertEqual(book, Book(("a", "b", "c"), ((0, 2, 1), (1, 0, 1))))
        self.assertEqual(show_book(book), "2 b, c\na, c")
        self.fault(InvalidText, 2, read_book, "a, b\nc\na, 2 b")
        self.assertEqual(show_book(read_book("a, b\nb, c\nc, d")), "c, d\nb, c\na, b")
        self.assertEqual(show_book(book=read_book(text="60 zzzzz")), "60 zzzzz")

    def test_blanks(self):
        for text in ("a,2 b", " a , 2 b ", "   2    b   ,   a", "1 a,2 b", "2 b,1   a "):
            self.assertEqual(read_book(text), Book(("a", "b"), ((1, 2),)))

    def test_amounts(self):
        for amount in range(1, 61):
            book = read_book(f"{amount} a")
            self.assertEqual(book, Book(("a",), ((amount,),)))
            self.assertEqual(show_book(book), "a" if amount == 1 else f"{amount} a")
        wrong = ["0", "00", "01", "007", "61", "100", "-1", "+1", "1.0", "1_0", "x", "1a", "060", "9" * 5000, "\u0661",
                 "\u00b2", "1 1", "\t1", "0x1", "1e1"]
        for amount in wrong:
            self.fault(InvalidText, 0, read_book, f"{amount} a")
            self.fault(InvalidText, 1, read_book, f"a\n{amount} b")

    def test_no_lines(self):
        wrong = [
            "", " ", ",", "a,", ",a", "a,,b", "a b", "2", "2a", "a 2", "2 2 a", "a, a", "a, 2 a", "A", "aaaaaa", "a-b",
            "a\tb", "\ta", "a\r", "a;b", "a, b, ", "a,\u00a0b", "\u00e4", "2 a b", "a1", "a.", "2  ", "(a)", "a,b,c,a",
        ]
        for line in wrong:
            self.fault(InvalidText, 0, read_book, line)
            self.fault(InvalidText, 0, read_book, line + "\na")
            self.fault(InvalidText, 1, read_book, "x\n" + line)
            self.fault(InvalidText, 1, read_book, "x\n" + line + "\n")

    def test_lines_cut_off(self):
        self.fault(InvalidText, 1, read_book, "a\n")
        self.fault(InvalidText, 0, read_book, "\na")
        self.fault(InvalidText, 1, read_book, "a\n\nb")
        self.fault(InvalidText, 0, read_book, "a\r\nb")
        self.fault(InvalidText, 1, read_book, "a\nb\u2028c")
        self.fault(InvalidText, 1, read_book, "a, b\nb,")
        self.fault(InvalidText, 1, read_book, "a, b\n2")

    def test_within_and_above(self):
        for at, text in (
            (1, "a\na"), (1, "a\n2 a"), (1, "2 a\na"), (2, "a, b\nc\nb"), (2, "a, b\nc\na, b, d"), (2, "a, b\nc\n2 c"),
            (3, "a, 2 b\n2 a, b\n3 c\n2 a, 2 b"), (2, "2 a\n2 b\na\nb"), (2, "a, b\nc, d\nb, a"), (1, "a\na, b\nA"),
        ):
            self.fault(InvalidText, at, read_book, text)
        self.assertEqual(len(read_book("a, 3 b\n2 a, 2 b\n3 a, b").ways), 3)

    def test_names(self):
        self.assertEqual(read_book("a,b,c,d,e,f,g,h").kinds, tuple("abcdefgh"))
        self.fault(InvalidText, 0, read_book, "a,b,c,d,e,f,g,h,i")
        self.fault(InvalidText, 8, read_book, "\n".join("abcdefghi"))
        self.fault(InvalidText, 2, read_book, "a,b,c,d\ne,f,g,h\ni\nA")
        self.fault(InvalidText, 2, read_book, "a,b,c,d\ne,f,g,h\na,i")
        self.fault(InvalidText, 2, read_book, "a,b,c,d\ne,f,g,h\na,b,c,d\ni")
        self.assertEqual(read_book("b\nab").kinds, ("ab", "b"))

    def test_two_hundred(self):
        lines = [f"{x} a, {y} b, {60 - x - y} c" for x in range(1, 16) for y in range(1, 16)]
        self.assertEqual(len(read_book("\n".join(lines[:200])).ways), 200)
        self.fault(InvalidText, 200, read_book, "\n".join(lines[:201]))
        self.fault(InvalidText, 200, read_book, "\n".join(lines[:200]) + "\n")
        self.fault(InvalidText, 200, read_book, "\n".join(lines[:200]) + "\nd, e, f\n" * 1000)
        self.fault(InvalidText, 199, read_book, "\n".join(lines[:199]) + "\nc\n")

    def test_no_string(self):
        for value in STRANGE:
            if value.__class__ is not str:
                self.fault(InvalidText, -1, read_book, value)
        self.fault(InvalidText, -1, read_book, ["a"])
        self.fault(InvalidText, -1, read_book, b"a")

    def test_round_trip(self):
        for kinds, ways in some_books(120, 100, top=60):
            book = Book(kinds, ways)
            text = show_book(book)
            self.assertEqual(read_book(text), book)
            self.assertEqual(read_book("\n".join(reversed(text.split("\n")))), book)
            self.assertEqual(len(text.split("\n")), len(ways))
            for line, way in zip(text.split("\n"), ways):
                parts = [kind if n == 1 else f"{n} {kind}" for kind, n in zip(kinds, way) if n]
                self.assertEqual(line, ", ".join(parts))


if __name__ == "__main__":
    unittest.main()
