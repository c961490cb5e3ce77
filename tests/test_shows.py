"""[23] Texts of formulas."""

import itertools
import random
import unittest

from asmany.errors import InvalidText
from asmany.formulas import check_formula
from asmany.shows import read_formula, show_formula
from plain import STRANGE, Case, some_formulas

A, B, C, D = [("kind", name) for name in "abcd"]
WORDS = ("a", "b", "and", "or", "of", "2", "60", "31", "(", ")", "1", "A")


def parse_text(words, at, times, names):
    """All ends (index behind, names used) of texts of formulas that begin at an index."""
    found = set()
    for end, used in parse_part(words, at, times, names):
        found.add((end, used))
        for joint in ("and", "or"):
            row = {(end, used)}
            while row:
                row = {two for one, told in row if one < len(words) and words[one] == joint
                       for two in parse_part(words, one + 1, times, told)}
                found |= row
    return found


def parse_part(words, at, times, names):
    """All ends of parts that begin at an index."""
    if at >= len(words):
        return set()
    word = words[at]
    found = set()
    if word.isalpha() and word.islower() and len(word) <= 5 and word not in names and len(names) < 8:
        found.add((at + 1, names | {word}))
    if word.isdigit() and word[0] != "0" and 2 <= int(word) and times * int(word) <= 60:
        if at + 1 < len(words) and words[at + 1] == "of":
            found |= parse_part(words, at + 2, times * int(word), names)
    if word == "(":
        found |= {(end + 1, used) for end, used in parse_text(words, at + 1, times, names)
                  if end < len(words) and words[end] == ")"}
    return found


class Shows(Case):

    def test_examples(self):
        self.assertEqual(show_formula(formula=("and", (("kind", "or"), ("many", 2, ("many", 3, ("kind", "of")))))),
                         "or and 2 of 3 of of")
        self.assertEqual(read_formula(text="or and 2 of 3 of of"),
                         ("and", (("kind", "or"), ("many", 2, ("many", 3, ("kind", "of"))))))
        self.assertEqual(read_formula("2 of (c and 3 of (b or a) and (d and 2 of e))"), ("many", 2, ("and", (
            C, ("many", 3, ("or", (B, A))), ("and", (D, ("many", 2, ("kind", "e"))))))))
        for text, formula in (
            ("a", A), ("  a ", A), ("(a)", A), ("((a))or(b)", ("or", (A, B))), ("2 of a", ("many", 2, A)),
            ("2 of(a)", ("many", 2, A)), ("(a and b)", ("and", (A, B))), ("2 of of", ("many", 2, ("kind", "of"))),
            ("and or or", ("or", (("kind", "and"), ("kind", "or")))), ("(a or b) and c", ("and", (("or", (A, B)), C))),
            ("2 of (2 of (a))", ("many", 2, ("many", 2, A))), ("a and (b and c)", ("and", (A, ("and", (B, C))))),
            ("and and or and of", ("and", (("kind", "and"), ("kind", "or"), ("kind", "of")))),
        ):
            self.assertEqual(read_formula(text), formula)
        self.assertEqual(show_formula(("many", 2, ("or", (A, ("and", (B, ("many", 3, C))))))), "2 of (a or (b and 3 of c))")

    def test_read_what_is_shown(self):
        for formula in some_formulas(230, 400, kinds=8, top=60):
            text = show_formula(formula)
            self.assertEqual(read_formula(text), formula)
            self.assertEqual(show_formula(read_formula(text)), text)
            self.assertEqual(read_formula(text.replace(" ", "   ") + " "), formula)
            self.assertEqual(read_formula(" " + text.replace("(", " ( ( ").replace(")", ") ) ")), formula)
            self.assertNotIn("  ", text)
            self.assertFalse("( " in text or " )" in text)
            self.assertEqual(text.count("("), self.joints_inside(formula))

    def joints_inside(self, formula):
        """How many "and" and "or" are parts."""
        if formula[0] == "kind":
            return 0
        parts = (formula[2],) if formula[0] == "many" else formula[1]
        return sum((part[0] in ("and", "or")) + self.joints_inside(part) for part in parts)

    def check_words(self, words):
        text = " ".join(words)
        if any(end == len(words) for end, _ in parse_text(words, 0, 1, frozenset())):
            self.assertIsNone(check_formula(read_formula(text)))
            return True
        with self.assertRaises(InvalidText) as caught:
            read_formula(text)
        self.assertEqual(caught.exception.at, self.first_wrong(words))
        return False

    def first_wrong(self, words):
        """The number of the first word with which no text can begin, as far as texts go on."""
        for count in range(1, len(words) + 1):
            if not any(self.can_end(words[:count] + more) for more in self.endings(words[:count])):
                return count - 1
        return len(words)

    def endings(self, words):
        """Words among which some end each text that can be ended: a part, and parentheses."""
        closing = (")",) * words.count("(")
        for part in ((), ("x",), ("of", "x")):
            for count in range(len(closing) + 1):
                yield part + closing[:count]

    def can_end(self, words):
        return any(end == len(words) for end, _ in parse_text(words, 0, 1, frozenset()))

    def test_all_short_texts(self):
        told = [0, 0]
        for size in range(5):
            for words in itertools.product(WORDS[:10] if size > 3 else WORDS, repeat=size):
                told[self.check_words(words)] += 1
        self.assertGreater(min(told), 60)

    def test_changed_texts(self):
        chance = random.Random(23)
        told = [0, 0]
        for formula in some_formulas(231, 500, kinds=5, top=60):
            words = show_formula(formula).replace("(", "( ").replace(")", " )").split()
            for _ in range(2):
                at = chance.randrange(len(words))
                words[at:at + chance.randint(0, 1)] = chance.sample(WORDS, chance.randint(0, 1))
                told[self.check_words(tuple(words))] += 1
                if not words:
                    break
        self.assertGreater(min(told), 100)

    def wrong(self, at, text):
        self.fault(InvalidText, at, read_formula, text)

    def test_ends_too_early(self):
        for text, at in (("", 0), ("   ", 0), ("a and", 2), ("a or ", 2), ("2", 1), ("2 of", 2), ("(", 1), ("(a", 2),
                         ("2 of (a or b", 6), ("((a)", 4), ("(a and", 3), ("a and (", 3), ("of and", 2)):
            self.wrong(at, text)

    def test_wrong_words(self):
        for text, at in (
            ("a b", 1), ("and and", 2), ("a and b or c", 3), ("a or b and c", 3), (")", 0), ("a)", 1), ("()", 1),
            ("a of b", 1), ("2 a", 1), ("2 and a", 1), ("2 of and of", 3), ("1 of a", 0), ("61 of a", 0), ("0 of a", 0),
            ("02 of a", 0), ("+2 of a", 0), ("2.0 of a", 0), ("-2 of a", 0), ("a\nand b", 0), ("a and\nb", 1), ("\n", 0),
            ("a \n", 1),
            ("a, b", 0), ("A", 0), ("aaaaaa", 0), ("a1", 0), ("2 of 2", 3), ("a and a", 2), ("a or (b and a)", 5),
            ("(a and b) or c and d", 7), ("((a and b) or c", 8), ("2 of a b", 3), ("2 of 3 a", 3), ("a(b)", 1),
            ("(a)(b)", 3), ("2 of 31 of a", 2), ("60 of 2 of a", 2), ("2 of (a or 30 of (b or 2 of c))", 10),
            ("2 of (a or 3 of (b or 11 of c))", 10), ("a\tand b", 0), ("a and (b or c) or d", 7), ("2of a", 0),
            ("60 of (a and 1 of b)", 5), ("\u0660 of a", 0), ("\u00e9", 0), ("a\u00a0", 0),
        ):
            self.wrong(at, text)
        self.assertIsNone(check_formula(read_formula("2 of (a or 30 of b) and 60 of c")))
        self.assertIsNone(check_formula(read_formula("2 of (a or 3 of (b or 10 of c))")))

    def test_ninth_name(self):
        names = "a b c d e f g h i".split()
        self.wrong(16, " and ".join(names))
        self.assertEqual(len(read_formula(" or ".join(names[:8]))[1]), 8)
        self.wrong(15, " or ".join(names[:8]) + " and z")
        self.wrong(16, " or ".join(names[:8]) + " or")
        self.wrong(16, " or ".join(names[:8]) + " or a")
        self.wrong(17, " or ".join(names[:8]) + " or (")
        self.wrong(17, " or ".join(names[:8]) + " or (i")

    def test_no_strings(self):
        for value in STRANGE:
            if value.__class__ is not str:
                self.wrong(-1, value)
        self.wrong(-1, ["a"])

    def test_very_long(self):
        many = 200000
        self.assertEqual(read_formula("(" * many + "a" + ")" * many), A)
        self.assertEqual(read_formula("2 of " + "(" * many + "a or b" + ")" * many), ("many", 2, ("or", (A, B))))
        self.wrong(2 * many, "(" * many + "a" + ")" * (many - 1))
        self.wrong(2 * many + 1, "(" * many + "a" + ")" * (many + 1))
        self.wrong(many, "(" * many)
        self.wrong(0, "a" * 10 ** 6)
        self.wrong(0, "9" * 10 ** 6)
        self.wrong(2, "2 of " + "2" * 10 ** 6)
        self.wrong(0, ")" * many)
        self.assertEqual(read_formula(" " * 10 ** 6 + "a" + " " * 10 ** 6), A)
        self.wrong(1, "a " * many)
        self.wrong(10, "2 of " * 6 + "a")


if __name__ == "__main__":
    unittest.main()
