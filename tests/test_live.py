"""[88] live books, and what stands before [85]."""

import random
import unittest

from asmany.books import Book
from asmany.edits import book_with, book_without
from asmany.errors import InvalidNumber, Refused
from asmany.layouts import book_of
from asmany.live import Live
from asmany.neighbours import formula_with, may_come, stems
from asmany.shows import read_formula
from asmany.texts import read_book
from plain import STRANGE, Case, Stubborn, formula_ways, lengths, minus, named, some_books, some_formulas, stories
from plain import strange_numbers, within

GREAT = 10 ** 18
BOOK = read_book("a, b\na, c")
ROAD = read_book("a, b\nb, c\nc, d")
EIGHT = tuple(("kind", name) for name in "abcdefgh")


def told(live):
    """All that a live book tells."""
    return (live.present().kinds, live.present().ways, live.stock(), live.brought(), live.made(), live.still(),
            live.credit(), live.changes())


def bundles_of(kinds, ways):
    return [tuple((kind, amount) for kind, amount in zip(kinds, way) if amount) for way in ways]


def sums_to(ways, amounts):
    """The number of ways whose sum the amounts are, `None` if there is none."""
    if not any(amounts):
        return 0
    for way in ways:
        if within(way, amounts):
            more = sums_to(ways, minus(amounts, way))
            if more is not None:
                return more + 1
    return None


class Plain:
    """A live book by the definition: the deeds that stand, all done anew each time."""

    def __init__(self, book, stock):
        self.first = (book, stock)
        self.deeds = []

    def told(self):
        book, stock = self.first
        ways = set(bundles_of(book.kinds, book.ways))
        stock, brought, made = dict(stock), dict(stock), []
        for word, item in self.deeds:
            if word == "bring":
                for table in (stock, brought):
                    table[item[0]] = table.get(item[0], 0) + item[1]
            elif word == "take":
                made.append(item)
                for name, amount in item:
                    stock[name] -= amount
            else:
                ways = ways | {item} if word == "put" else ways - {item}
        kinds = tuple(sorted({name for way in ways for name, _ in way}))
        rows = tuple(sorted(tuple(dict(way).get(kind, 0) for kind in kinds) for way in ways))
        still = credit = None
        if not stories(rows):
            pool = tuple(stock.get(kind, 0) for kind in kinds)
            (still,) = lengths(rows, pool)
            shares = [sums_to(rows, tuple(dict(one).get(kind, 0) for kind in kinds)) for one in made]
            credit = None if None in shares else sum(shares)
            if credit is not None:
                # Together they are the pieces of all that came.
                came = lengths(rows, tuple(brought.get(kind, 0) for kind in kinds))
                assert (credit + still,) == came
        return (kinds, rows, {name: amount for name, amount in stock.items() if amount},
                {name: amount for name, amount in brought.items() if amount}, tuple(made), still, credit, len(self.deeds))


class Lives(Case):

    def test_ordinary(self):
        live = Live(book=BOOK, stock={"a": 2, "x": 0})
        self.assertEqual(told(live), (BOOK.kinds, BOOK.ways, {"a": 2}, {"a": 2}, (), 0, 0, 0))
        self.assertIsNone(live.bring(name="c", amount=3))
        self.assertEqual((live.still(), live.stock(), live.brought()), (2, {"a": 2, "c": 3}, {"a": 2, "c": 3}))
        self.assertEqual(live.take(number=0), (("a", 1), ("c", 1)))
        self.assertEqual((live.made(), live.still(), live.credit()), (((("a", 1), ("c", 1)),), 1, 1))
        self.assertEqual(live.put(bundle=(("c", 1), ("z", 2))), 0)
        self.assertIs(live.present() == read_book("a, b\na, c\nc, 2 z"), True)
        self.assertEqual((live.still(), live.credit()), (None, None))
        self.assertEqual(live.strike(number=1), (("a", 1), ("c", 1)))
        self.assertEqual(live.present(), read_book("a, b\nc, 2 z"))
        # By the book of now, a and c make no pieces.
        self.assertEqual((live.still(), live.credit()), (0, None))
        self.assertEqual(live.changes(), 4)
        self.assertIsNone(live.undo())
        self.assertIsNone(live.undo())
        self.assertEqual((live.present(), live.changes(), live.credit()), (BOOK, 2, 1))

    def test_has_methods_alone(self):
        live = Live(BOOK, {})
        self.assertEqual([name for name in vars(live) if not name.startswith("_")], [])

    def test_later_changes(self):
        stock = {"a": 1, "b": 1}
        live = Live(BOOK, stock)
        stock["a"] = 7
        self.assertEqual((live.stock(), live.brought()), ({"a": 1, "b": 1}, {"a": 1, "b": 1}))
        live.take(1)
        self.assertEqual(stock, {"a": 7, "b": 1})
        for call in (live.stock, live.brought):
            before = dict(call())
            call().clear()
            call()["q"] = 1
            self.assertEqual(call(), before)
        two = Live(BOOK, stock)
        two.bring("a", 1)
        self.assertEqual((live.changes(), two.changes()), (1, 1))
        self.assertEqual(live.stock(), {})

    def test_undo(self):
        live = Live(BOOK, {"a": 1, "b": 1})
        self.fault(Refused, "undo", live.undo)
        before = [told(live)]
        for call, args in ((live.bring, ("a", 0)), (live.bring, ("q", 5)), (live.take, (1,)), (live.put, ((("d", 1),),)),
                           (live.strike, (2,)), (live.bring, ("a", GREAT - 1)), (live.put, ((("a", 7),),)), (live.take, (2,))):
            call(*args)
            before.append(told(live))
            # What raises an error is nothing to take back.
            self.fault(Refused, "name", live.bring, "", 1)
            self.fault(InvalidNumber, "number", live.take, None)
            self.fault(InvalidNumber, "number", live.strike, None)
            self.fault(Refused, "bundle", live.put, None)
            self.assertEqual(told(live), before[-1])
        for count in reversed(range(len(before))):
            self.assertEqual(live.changes(), count)
            self.assertEqual(told(live), before[count])
            if count:
                live.undo()
        self.fault(Refused, "undo", live.undo)
        live.bring("a", 1)
        live.undo()
        self.assertEqual(told(live), before[0])

    def test_bring_nothing(self):
        live = Live(BOOK, {})
        live.bring("a", 0)
        self.assertEqual(told(live), (BOOK.kinds, BOOK.ways, {}, {}, (), 0, 0, 1))
        live.undo()
        self.assertEqual(live.changes(), 0)

    def test_great(self):
        live = Live(BOOK, {"a": GREAT, "b": GREAT - 2})
        self.fault(InvalidNumber, "amount", live.bring, "a", 1)
        live.bring("a", 0)
        live.take(1)
        # What was taken has come all the same.
        self.fault(InvalidNumber, "amount", live.bring, "a", 1)
        self.fault(InvalidNumber, "amount", live.bring, "b", 3)
        live.bring("b", 2)
        self.fault(InvalidNumber, "amount", live.bring, "b", 1)
        self.assertEqual((live.still(), live.credit()), (GREAT - 1, 1))
        # What was taken back has not come.
        live.undo()
        live.bring("b", 1)
        self.fault(InvalidNumber, "amount", live.bring, "b", 2)
        live.bring("zzzzz", GREAT)
        self.fault(InvalidNumber, "amount", live.bring, "zzzzz", 1)
        self.fault(InvalidNumber, "amount", live.bring, "c", GREAT + 1)
        sixty = book_of(("and", (("many", 18, ("or", EIGHT[:3])), EIGHT[7])))
        live = Live(sixty, {"a": GREAT, "b": 17, "h": GREAT})
        self.assertEqual(live.still(), (GREAT + 17) // 18)
        for _ in range(200):
            live.take(189)
        self.assertEqual((live.still(), live.credit()), ((GREAT + 17) // 18 - 200, 200))

    def test_random(self):
        """What was taken and what there is are together the pieces of all that came."""
        chance = random.Random(88)
        found = {"none": 0, "credit": 0, "both": 0}
        starts = some_books(880, 40, kinds=3, ways=4) + [
            (named(formula), tuple(sorted(formula_ways(formula, named(formula)))))
            for formula in some_formulas(881, 150, kinds=3, top=2)]
        for kinds, ways in starts:
            if len(ways) > 8:
                continue
            stock = {name: chance.randint(0, 4) for name in "abcde"[:chance.randint(2, 5)]}
            live, plain = Live(Book(kinds, ways), stock), Plain(Book(kinds, ways), stock)
            for _ in range(24):
                self.do_one(chance, live, plain)
                self.assertEqual(told(live), plain.told())
                found["none"] += live.still() is None
                found["credit"] += live.still() is not None and live.credit() is None
                found["both"] += bool(live.credit())
        self.assertGreater(min(found.values()), 60)

    def do_one(self, chance, live, plain):
        word = chance.choice(("bring", "take", "take", "put", "strike", "strike", "undo"))
        ways = live.present().ways
        bundles = bundles_of(live.present().kinds, ways)
        if word == "bring":
            item = (chance.choice("abcde"), chance.randint(0, 3))
            self.assertIsNone(live.bring(*item))
        elif word == "take":
            number = chance.randrange(len(ways))
            item = bundles[number]
            if any(live.stock().get(name, 0) < amount for name, amount in item):
                return self.fault(Refused, "short", live.take, number)
            self.assertEqual(live.take(number), item)
        elif word == "put":
            names = sorted(chance.sample("abcde", chance.choice((1, 1, 2, 3))))
            item = tuple((name, chance.choice((1, 1, 2))) for name in names)
            tables = [dict(one) for one in bundles]
            if any(all(one.get(name, 0) >= amount for name, amount in item) or all(
                    dict(item).get(name, 0) >= amount for name, amount in one.items()) for one in tables):
                return self.fault(Refused, "within", live.put, item)
            number = live.put(item)
            self.assertEqual(bundles_of(live.present().kinds, live.present().ways)[number], item)
        elif word == "strike":
            number = chance.randrange(len(ways))
            if len(ways) == 1:
                return self.fault(Refused, "last", live.strike, number)
            item = bundles[number]
            self.assertEqual(live.strike(number), item)
        else:
            if not plain.deeds:
                return self.fault(Refused, "undo", live.undo)
            plain.deeds.pop()
            return self.assertIsNone(live.undo())
        plain.deeds.append((word, item))
        return None

    def test_puts(self):
        """Between even books what there is still makes never fewer, and hardly more."""
        chance = random.Random(89)
        risen = {True: 0, False: 0}
        halves = [read_formula(text) for text in (
            "4 of a or 2 of b", "2 of a or 6 of (b and c)", "c and (2 of a or 2 of b)", "4 of (2 of a and b) or 2 of c or d")]
        for formula in some_formulas(882, 200, kinds=4, top=4) + halves * 20:
            kinds = named(formula)
            if len(formula_ways(formula, kinds)) > 30:
                continue
            bundles = list(may_come(formula))
            bundles += [tuple(sorted(stem + (("x", chance.randint(1, 3)),))) for stem in stems(formula)]
            for bundle in bundles:
                stock = {name: chance.randint(0, 9) for name in kinds + ("x",)}
                live = Live(book_of(formula), stock)
                before = live.still()
                live.put(bundle)
                self.assertEqual(live.present(), book_of(formula_with(formula, bundle)))
                fits = min(stock[name] // amount for name, amount in bundle)
                rise = live.still() - before
                is_new = any(name not in kinds for name, _ in bundle)
                self.assertTrue(0 <= rise <= (fits if is_new else min(fits, 1)))
                risen[is_new] += rise > 0
                # Whatever was taken before: it does no harm.
                live.undo()
                taken = 0
                while live.still() and taken < 3:
                    number = chance.choice([at for at, one in enumerate(bundles_of(kinds, live.present().ways))
                                            if all(live.stock().get(name, 0) >= amount for name, amount in one)])
                    live.take(number)
                    taken += 1
                live.put(bundle)
                self.assertEqual(live.credit() + live.still(), before + rise)
        self.assertGreater(min(risen.values()), 3)
        self.assertGreater(risen[True], 100)

    def test_one_piece_more(self):
        live = Live(read_book("4 a\n2 b"), {"a": 7, "b": 3})
        self.assertEqual(live.still(), 2)
        self.assertEqual(live.put((("a", 2), ("b", 1))), 1)
        self.assertEqual(live.still(), 3)
        self.assertEqual(live.take(1), (("a", 2), ("b", 1)))
        self.assertEqual((live.still(), live.credit()), (2, 1))
        self.assertEqual(live.strike(1), (("a", 2), ("b", 1)))
        self.assertEqual((live.still(), live.credit()), (2, None))

    def test_uneven(self):
        live = Live(ROAD, {"a": 1, "b": 1, "c": 1, "d": 1})
        self.assertEqual((live.still(), live.credit()), (None, None))
        live.take(1)
        self.assertEqual((live.still(), live.credit(), live.made()), (None, None, ((("b", 1), ("c", 1)),)))
        live.strike(1)
        self.assertEqual((live.still(), live.credit()), (0, None))
        live.undo()
        live.strike(0)
        self.assertEqual((live.still(), live.credit()), (0, 1))

    def test_wide(self):
        live = Live(book_of(read_formula("18 of (a or b or c) or 8 of (d or e)")), {})
        self.assertEqual(live.put((("f", 1),)), 0)
        self.assertEqual(len(live.present().ways), 200)
        self.fault(Refused, "wide", live.put, (("g", 1),))
        self.assertEqual(live.changes(), 1)
        lone = Live(read_book("a, b, c, d, e, f, g, h"), {})
        self.fault(Refused, "wide", lone.put, (("i", 1),))
        self.fault(Refused, "last", lone.strike, 0)
        self.assertEqual(told(lone)[2:], ({}, {}, (), 0, 0, 0))

    def test_wrong_arguments(self):
        live = Live(BOOK, {"a": 1, "c": 1})
        before = told(live)
        for name in STRANGE + ("A", "abcdef", "a b", "a1", ("a",), ["a"], b"a"):
            if name.__class__ is not str or name not in ("a", "many"):
                self.fault(Refused, "name", live.bring, name, 1)
                self.fault(Refused, "name", live.bring, name, None)
        for amount in strange_numbers() + [GREAT, GREAT + 1]:
            self.fault(InvalidNumber, "amount", live.bring, "a", amount)
        for number in strange_numbers() + [2, GREAT]:
            self.fault(InvalidNumber, "number", live.take, number)
            self.fault(InvalidNumber, "number", live.strike, number)
        self.fault(Refused, "short", live.take, 1)
        for bundle in STRANGE + ((("a", 0),), (("a", 61),), (("b", 1), ("a", 1)), (("a", 1), ("a", 1)), [("d", 1)], (["d", 1],),
                                 (("d", True),), (("d", 1.0),), ((Stubborn(), 1),), (("d", Stubborn()),), ("d", 1), {"d": 1}):
            self.fault(Refused, "bundle", live.put, bundle)
        for bundle in ((("a", 1), ("b", 1)), (("a", 1),), (("a", 1), ("c", 1), ("d", 1)), (("c", 1),)):
            self.fault(Refused, "within", live.put, bundle)
        self.assertEqual(told(live), before)
        lone = Live(read_book("a"), {"a": 1})
        self.fault(InvalidNumber, "number", lone.strike, 1)
        self.fault(Refused, "last", lone.strike, 0)

    def test_like_the_functions(self):
        chance = random.Random(90)
        for kinds, ways in some_books(883, 60, kinds=4, ways=5):
            book = Book(kinds, ways)
            live = Live(book, {})
            bundle = (("h", chance.randint(1, 60)),)
            number = live.put(bundle)
            self.assertEqual(live.present(), book_with(book, bundle))
            self.assertEqual(live.strike(number), bundle)
            self.assertEqual(live.present(), book_without(book_with(book, bundle), number))


if __name__ == "__main__":
    unittest.main()
