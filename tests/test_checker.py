"""[89] claims, and what stands before [85]."""

import itertools
import random
import time
import unittest

from asmany.boats import Boat, split_of
from asmany.books import Book
from asmany.builder import built
from asmany.checker import check_claim, claim_words, concluded, gathered
from asmany.clashes import Clashes
from asmany.cores import book_path
from asmany.court import AsMany, Told, court
from asmany.crossings import crossing
from asmany.errors import InvalidNumber, InvalidPool, Refused
from asmany.haste import best_mix, best_prices
from asmany.layouts import book_of
from asmany.mirrors import first_session_story
from asmany.nets import Net, net_book
from asmany.parts import lacking, plenty
from asmany.shows import read_formula
from asmany.stories import first_story
from asmany.striking import Strikes, fewest_strikes
from asmany.texts import read_book
from plain import STRANGE, Case, Stubborn, all_small_books, formula_ways, least, named, nested, some_books
from plain import some_formulas, stories, subsets, wide_book

ROAD = read_book("a, b\nb, c\nc, d")
EVEN = read_book("a, b\na, c")
STAR = Book(("a", "b", "c", "d"), ((0, 0, 1, 1), (0, 1, 0, 1), (1, 0, 0, 1), (1, 1, 1, 0)))
FORMULA = read_formula("a and (b or c)")
NET = Net((("a", 0, 1), ("b", 0, 2), ("c", 1, 2), ("d", 1, 3), ("e", 2, 3)), 0, 3)
PATH = Clashes(4, ((0, 1), (1, 2), (2, 3)))
BOAT = Boat(("a", "b"), (2, 3), 6)
CALM = Clashes(2, ((0, 1),))
TREE = ("turn", (("job", 0), ("job", 1)))
MIX = ((0, 0, 0, 1), (1, 1, 1, 0))
UNEVEN_BOAT = Boat(("a", "b"), (2, 3), 7)

# For each word a claim that holds, and one that does not.
HOLDS = {
    "best": (STAR, ("a", "b", "c"), (1, 1, 1, 0), MIX),
    "book_path": (EVEN, EVEN, (EVEN,)),
    "clash_tree": (CALM, TREE),
    "crossing": (NET, crossing(NET)),
    "filling": (EVEN, FORMULA),
    "left": (FORMULA, (2, 1, 5), (0, 0, 4)),
    "mix": (STAR, ("a", "b", "c"), MIX),
    "plan": (FORMULA, (3, 2, 2), (((1, 0, 1), 2),)),
    "prices": (STAR, ("a", "b", "c"), (1, 1, 1, 0)),
    "prompt": (PATH, (1, 1, 1, 1), (0, 1, 2, 0)),
    "row_of_four": (PATH, (0, 1, 2, 3)),
    "run": (ROAD, (1, 1, 1, 1), (2,)),
    "served_by": (FORMULA, (2, 1, 5), (1, 0, 1)),
    "session_story": (ROAD, (1, 0, 2)),
    "side": (FORMULA, ("b", "c")),
    "split": (UNEVEN_BOAT, split_of(UNEVEN_BOAT)),
    "story": (ROAD, (1, 0, 2)),
    "strikes": (ROAD, Strikes((0,), ((1, 0, 2), ()))),
    "trip": (BOAT, (3, 2), (3, 0)),
    "verdict": (EVEN, AsMany(FORMULA)),
    "way": (FORMULA, (1, 0, 1)),
}
FAILS = {
    "best": (STAR, ("a", "b", "c"), (1, 1, 1, 0), (MIX[1], MIX[0])),
    "book_path": (EVEN, EVEN, (EVEN, EVEN)),
    "clash_tree": (CALM, ("beside", TREE[1])),
    "crossing": (NET, ((0, 1, 2, 3), ())),
    "filling": (EVEN, read_formula("a or b or c")),
    "left": (FORMULA, (2, 1, 5), (1, 0, 5)),
    "mix": (STAR, ("a", "b", "c"), (MIX[1], MIX[1], MIX[1])),
    "plan": (FORMULA, (1, 2, 2), (((1, 0, 1), 2),)),
    "prices": (STAR, ("a", "b", "c"), (1, 0, 0, 0)),
    "prompt": (PATH, (1, 1, 1, 1), (0, 0, 0, 0)),
    "row_of_four": (PATH, (0, 1, 3, 2)),
    "run": (ROAD, (1, 1, 1, 1), (2, 1)),
    "served_by": (FORMULA, (2, 1, 5), (1, 0, 0)),
    "session_story": (ROAD, (0, 1, 2)),
    "side": (FORMULA, ("a", "b")),
    "split": (BOAT, ((0, 0), (0, 0), (0, 0))),
    "story": (ROAD, (0, 1, 2)),
    "strikes": (ROAD, Strikes((), None)),
    "trip": (BOAT, (3, 2), (2, 0)),
    "verdict": (EVEN, Told((0, 0, 0))),
    "way": (FORMULA, (1, 1, 1)),
}


ONE_SIDE = next(value for value in STRANGE if value.__class__ is tuple and len(value) == 1 and value[0].__class__ is str)


def claim(word, told=None):
    return (word, *(HOLDS if told is None else told)[word])


def plain_parts(book):
    """The kinds and ways of all parts of a book, by trying all lots."""
    found = []
    for lot in subsets(range(len(book.kinds))):
        others = [way for way in book.ways if not any(way[k] for k in lot)]
        rest = [tuple(0 if k in lot else amount for k, amount in enumerate(way)) for way in book.ways]
        for rows in (others, rest):
            if rows and all(any(row) for row in rows):
                rows = least(rows)
                used = [k for k in range(len(book.kinds)) if any(row[k] for row in rows)]
                found.append((tuple(book.kinds[k] for k in used),
                              tuple(sorted(tuple(row[k] for k in used) for row in rows))))
    return found


def is_part(part, book):
    return (part.kinds, part.ways) in plain_parts(book)


class Claims(Case):

    def test_words(self):
        self.assertEqual(claim_words(), (
            "best", "book_path", "clash_tree", "crossing", "filling", "left", "mix", "plan", "prices", "prompt",
            "row_of_four", "run", "served_by", "session_story", "side", "split", "story", "strikes", "trip",
            "verdict", "way"))

    def test_every_word(self):
        self.assertEqual((tuple(sorted(HOLDS)), tuple(sorted(FAILS))), (claim_words(), claim_words()))
        for word in claim_words():
            self.assertIs(check_claim(claim=claim(word)), True, word)
            self.assertIs(check_claim(claim(word, FAILS)), False, word)

    def test_strange_last_arguments(self):
        """Any value may be claimed; the errors of the functions pass."""
        for word in claim_words():
            first = claim(word)[:-1]
            for value in STRANGE:
                # The empty run, the empty plan, and a side.
                is_empty = value.__class__ is tuple and len(value) == 0
                right = word in ("run", "plan") and is_empty or word == "side" and value is ONE_SIDE
                self.assertIs(check_claim((*first, value)), right, word)

    def test_no_claims(self):
        for value in STRANGE + ("story", "verdict", ("story",), ("verdict", EVEN), ["way", FORMULA, (1, 0, 1)], (("way",), FORMULA),
                                ("Way", FORMULA, (1, 0, 1)), ("is_way", FORMULA, (1, 0, 1)), ("can_be_left", FORMULA, (1,) * 3, (1,) * 3),
                                ("check_run", ROAD, (1,) * 4, ()), ("are_prices", STAR, ("d",), (0, 0, 0, 1)), ("claim", claim("way")),
                                (None, FORMULA, (1, 0, 1)), (Stubborn(), FORMULA, (1, 0, 1)), (0, FORMULA, (1, 0, 1)),
                                ("lot", FORMULA, (1, 0, 1)), (True,), (nested(5000), 1), ("bundle", (("a", 1),)), ("", 1, 2)):
            self.assertIs(check_claim(value), False)
        for word in claim_words():
            told = claim(word)
            for wrong in (told + (1,), told[:-1], told[1:], list(told), told[1:] + told[:1], (told,), told + (None,), told[:1]):
                self.assertIs(check_claim(wrong), False)
        # Arguments with defaults are none of a claim.
        self.assertIs(check_claim(claim("served_by") + (1,)), False)

    def test_errors_pass(self):
        eleven = book_of(read_formula("10 of (a or b)"))
        for error, told, value in (
                (InvalidPool, -1, ("run", ROAD, None, (0,))), (InvalidPool, 2, ("run", ROAD, (1, 1, -1, 1), None)),
                (InvalidPool, -1, ("left", FORMULA, None, None)), (InvalidPool, 0, ("plan", FORMULA, (None, 1, 1), ())),
                (InvalidPool, -1, ("served_by", FORMULA, (1, 1), None)), (InvalidPool, -1, ("trip", BOAT, 7, None)),
                (InvalidNumber, "lengths", ("prompt", PATH, (1, 1), (0, 0))), (Refused, "wide", ("strikes", eleven, None)),
                (Refused, "lot", ("prices", STAR, None, None)), (Refused, "bar", ("mix", STAR, ("a",), MIX)),
                (Refused, "bar", ("best", STAR, (), None, None))):
            self.fault(error, told, check_claim, value)
            self.fault(error, told, concluded, EVEN, (claim("verdict"), value, 7))
            # The first one that raises one.
            self.fault(error, told, concluded, EVEN, (None, value, ("run", ROAD, 7, 7)))

    def test_runs(self):
        for run in ((), (0,), (0, 2), (2, 0), (1,)):
            self.assertIs(check_claim(("run", ROAD, (1, 1, 1, 1), run)), True)
        for run in (None, [0], (0, 1), (3,), (True,), (0, 0)):
            self.assertIs(check_claim(("run", ROAD, (1, 1, 1, 1), run)), False)

    def test_small(self):
        chance = random.Random(89)
        some = 0
        for kinds, ways in all_small_books()[::10] + some_books(890, 60, kinds=4, ways=5):
            book = Book(kinds, ways)
            triple = tuple(chance.randrange(len(ways)) for _ in range(3))
            told = stories(ways)
            some += triple in told
            self.assertIs(check_claim(("story", book, triple)), triple in told)
            self.assertIs(check_claim(("verdict", book, Told(triple))), triple in told)
            self.assertIs(check_claim(("verdict", book, court(book))), True)
            self.assertIs(check_claim(("strikes", book, fewest_strikes(book))), True)
            self.assertIs(check_claim(("strikes", book, Strikes((), None))), not told)
            self.assertIs(check_claim(("book_path", book, book, (book,))), not told)
        self.assertGreater(some, 5)


class Concluded(Case):

    def test_what_each_shows(self):
        """Of the claims that hold, of the book itself."""
        none = [word for word in claim_words() if word not in (
            "best", "book_path", "crossing", "mix", "session_story", "story", "strikes", "verdict")]
        for word in none:
            for book in (EVEN, ROAD, STAR):
                self.assertEqual(concluded(book, (claim(word),)), ())
        self.assertEqual(concluded(book=EVEN, claims=(claim("verdict"),)), ("even",))
        self.assertEqual(concluded(EVEN, (claim("book_path"),)), ("even",))
        self.assertEqual(concluded(EVEN, (("strikes", EVEN, Strikes((), None)),)), ("even",))
        self.assertEqual(concluded(ROAD, (("verdict", ROAD, Told((1, 0, 2))),)), ("uneven",))
        for word in ("story", "session_story", "strikes"):
            self.assertEqual(concluded(ROAD, (claim(word),)), ("uneven",))
        for word in ("mix", "best"):
            self.assertEqual(concluded(STAR, (claim(word),)), ("uneven",))
        self.assertEqual(concluded(net_book(NET), (claim("crossing"),)), ("uneven",))

    def test_what_does_not_hold(self):
        for book in (EVEN, ROAD, STAR, net_book(NET)):
            self.assertEqual(concluded(book, ()), ())
            self.assertEqual(concluded(book, tuple(claim(word, FAILS) for word in claim_words())), ())
            self.assertEqual(concluded(book, STRANGE), ())

    def test_mixes(self):
        """Just those with more fast than slow ways."""
        for mix, right in ((MIX, ("uneven",)), (((0, 0, 0, 3), (1, 1, 1, 0)), ()), (((0, 0, 0, 4), (1, 1, 1, 0)), ()),
                           (((0, 0, 0, 2), (1, 1, 1, 0)), ("uneven",)), (((1, 0, 0, 0), (1, 0, 0, 0)), ())):
            self.assertIs(check_claim(("mix", STAR, ("a", "b", "c"), mix)), True)
            self.assertEqual(concluded(STAR, (("mix", STAR, ("a", "b", "c"), mix),)), right)
        best = ("best", EVEN, ("a",), best_prices(EVEN, ("a",)), best_mix(EVEN, ("a",)))
        self.assertIs(check_claim(best), True)
        self.assertEqual(concluded(EVEN, (best,)), ())
        # Best, but with as many: the book may be uneven all the same.
        best = ("best", ROAD, ("a", "c"), best_prices(ROAD, ("a", "c")), best_mix(ROAD, ("a", "c")))
        self.assertIs(check_claim(best), True)
        self.assertEqual(concluded(ROAD, (best,)), () if sum(best[4][0]) == sum(best[4][1]) else ("uneven",))

    def test_parts(self):
        """What is even has even parts."""
        wide = read_book("a, b\na, c\nd, e\nd, 2 f")
        proof = ("verdict", wide, court(wide))
        for part in ("a, b\na, c", "a, b\na, c\nd, e", "d, e\nd, 2 f", "b\nc\nd, e\nd, 2 f", "a\nd, e\nd, 2 f"):
            self.assertEqual(concluded(read_book(part), (proof,)), ("even",), part)
        for other in ("a, b\na, 2 c", "a\nd\nx", "a, b\nd, f", "b\nc\ne\nf", "x"):
            self.assertEqual(concluded(read_book(other), (proof,)), ())
        # The book of a part tells nothing of the whole one, if it is even.
        self.assertEqual(concluded(wide, (("verdict", EVEN, court(EVEN)),)), ())
        whole = read_book("a, b\nb, c\nc, d\ne")
        self.assertEqual(concluded(whole, (claim("story"),)), ("uneven",))
        self.assertEqual(concluded(ROAD, (("story", whole, first_story(whole)),)), ())
        self.assertEqual(concluded(read_book("a, b, e\nb, c, e\nc, d, e"), (claim("story"),)), ("uneven",))
        self.assertEqual(concluded(read_book("a, b, e\nb, c, e\nc, d"), (claim("story"),)), ("uneven",))
        self.assertEqual(concluded(read_book("a, b, e\nb, c\nc, d"), (claim("story"),)), ("uneven",))
        self.assertEqual(concluded(read_book("a, b, e\nb, 2 c\nc, d"), (claim("story"),)), ())

    def test_paths(self):
        """Each book of a path is shown to be even."""
        one, other = read_book("a, b\na, c"), read_book("2 x\nx, y\n2 y")
        path = book_path(one, other)
        proof = ("book_path", one, other, path)
        self.assertGreater(len(path), 3)
        for book in path:
            self.assertEqual(concluded(book, (proof,)), ("even",))
        self.assertEqual(concluded(read_book("b\nc"), (proof,)), ("even",))
        self.assertEqual(concluded(read_book("b\nd"), (proof,)), ())

    def test_small(self):
        """By the definition, with claims of the book, of its parts, of greater books and of others."""
        chance = random.Random(90)
        told = {(): 0, ("even",): 0, ("uneven",): 0}
        pairs = some_books(891, 120, kinds=4, ways=4) + [
            (named(formula), tuple(sorted(formula_ways(formula, named(formula)))))
            for formula in some_formulas(892, 80, kinds=4, top=2)]
        books = [Book(kinds, ways) for kinds, ways in pairs if len(ways) <= 8]
        for book in books:
            parts = [Book(*pair) for pair in plain_parts(book)]
            others = [book, chance.choice(parts), chance.choice(parts), chance.choice(books)]
            claims = [self.some_claim(chance, one) for one in others]
            claims = tuple(chance.sample(claims, chance.randint(1, 3)))
            for now in (book, chance.choice(parts)):
                right = self.plain_concluded(now, claims)
                found = concluded(now, claims)
                self.assertEqual(found, right)
                told[found] += 1
                if found:
                    self.assertEqual(found, ("uneven",) if stories(now.ways) else ("even",))
        self.assertGreater(min(told.values()), 20)

    def some_claim(self, chance, book):
        story = first_story(book)
        found = [("verdict", book, court(book)), ("strikes", book, fewest_strikes(book)), ("story", book, story), ("side", FORMULA, ("a",)),
                 ("book_path", book, book, (book,)), ("session_story", book, first_session_story(book)), ("story", book, (0, 0, 0))]
        return chance.choice(found)

    def plain_concluded(self, book, claims):
        words = set()
        for value in claims:
            if not check_claim(value) or value[0] == "side":
                continue
            if stories(value[1].ways):
                words |= {"uneven"} if is_part(value[1], book) else set()
            else:
                words |= {"even"} if is_part(book, value[1]) else set()
        return tuple(sorted(words))

    def test_same_part_by_all_other_kinds(self):
        """Which lots lead to a part does not matter: all lots are tried."""
        for kinds, ways in some_books(893, 80, kinds=5, ways=5):
            book = Book(kinds, ways)
            even = not stories(ways)
            proof = ("verdict", book, court(book))
            found = set()
            for lot in subsets(kinds):
                for cut in (lacking, plenty):
                    try:
                        found.add((cut(book, lot).kinds, cut(book, lot).ways))
                    except Refused:
                        continue
            self.assertEqual(found, set(plain_parts(book)))
            if even:
                for part in found:
                    self.assertEqual(concluded(Book(*part), (proof,)), ("even",))


class Gathered(Case):

    def check(self, book):
        found = gathered(book)
        self.assertIs(found.__class__, tuple)
        even = built(book) is not None
        words = ["verdict", "book_path"] if even else ["verdict", "story", "session_story"]
        self.assertEqual([one[0] for one in found], words)
        for one in found:
            self.assertIs(one[1], book)
            self.assertIs(check_claim(one), True)
            self.assertEqual(concluded(book, (one,)), ("even",) if even else ("uneven",))
        self.assertEqual(concluded(book=book, claims=found), ("even",) if even else ("uneven",))
        return even

    def test_small(self):
        told = [0, 0]
        for kinds, ways in all_small_books()[::6] + some_books(894, 60, kinds=4, ways=6):
            even = self.check(Book(kinds, ways))
            self.assertIs(even, not stories(ways))
            told[even] += 1
        self.assertGreater(min(told), 30)

    def test_wide(self):
        started = time.monotonic()
        wide = book_of(read_formula("18 of (a or b or c) or 9 of (d or e)"))
        self.assertEqual(len(wide.ways), 200)
        self.assertTrue(self.check(wide))
        for at in (0, 100, 199):
            self.assertFalse(self.check(Book(wide.kinds, wide.ways[:at] + wide.ways[at + 1:])))
        self.assertFalse(self.check(Book(*wide_book(895))))
        proof = ("verdict", wide, court(wide))
        part = lacking(wide, ("d",))
        self.assertEqual(concluded(part, (proof,) * 50), ("even",))
        # Many claims.
        many = tuple(itertools.islice(itertools.cycle([claim(word) for word in claim_words()]), 2000))
        self.assertEqual(concluded(ROAD, many), ("uneven",))
        self.assertLess(time.monotonic() - started, 60)


if __name__ == "__main__":
    unittest.main()
