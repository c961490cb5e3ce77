"""[44], [45], and what stands before [44]: shops."""

import random
import unittest

from asmany.errors import InvalidNumber, InvalidPool, InvalidRun, Refused
from asmany.shops import Shop, replay
from plain import STRANGE, Case, Stubborn, formula_ways, lengths, minus, named, plus, some_formulas, strange_but
from plain import strange_numbers, within

A, B, C = [("kind", name) for name in "abc"]
FORMULA = ("and", (A, ("many", 2, ("or", (B, C)))))
SIXTY = ("many", 60, ("or", tuple(("kind", name) for name in "abcdefgh")))
GREAT = 10 ** 18
DEEDS = (("come", (2, 3, 0)), ("make", (1, 2, 0), 5), ("come", (1, 0, 3)))


def told(shop):
    """All that a shop tells."""
    return (shop.formula, shop.came(), shop.pool(), shop.made(), shop.made_by(), shop.still(), shop.deeds())


class Plain:
    """A shop by the definition: the deeds that stand and those taken back."""

    def __init__(self, formula):
        self.formula = formula
        self.ways = sorted(formula_ways(formula, named(formula)))
        self.deeds, self.undone, self.known = [], [], {}

    def sums(self, deeds):
        came = pool = (0,) * len(named(self.formula))
        for deed in deeds:
            if deed[0] == "come":
                came, pool = plus(came, deed[1]), plus(pool, deed[1])
            else:
                pool = minus(pool, deed[1])
        return came, pool

    def told(self):
        came, pool = self.sums(self.deeds)
        hands = [deed[2] for deed in self.deeds if deed[0] == "make"]
        still = lengths(self.ways, pool, self.known)
        assert len(still) == 1
        return (self.formula, came, pool, len(hands), {hand: hands.count(hand) for hand in hands}, still[0],
                tuple(self.deeds))


class Shops(Case):

    def test_example(self):
        shop = replay(FORMULA, DEEDS)
        self.assertEqual((shop.pool(), shop.made_by(), shop.still()), ((2, 1, 3), {5: 1}, 2))
        self.assertEqual((shop.came(), shop.made(), shop.deeds()), ((3, 3, 3), 1, DEEDS))
        shop = Shop(formula=FORMULA)
        self.assertEqual(told(shop), (FORMULA, (0, 0, 0), (0, 0, 0), 0, {}, 0, ()))
        self.assertIsNone(shop.come(amounts=(2, 3, 0)))
        self.assertIsNone(shop.make(way=(1, 2, 0), hand=5))
        self.assertIsNone(shop.come((1, 0, 3)))
        self.assertEqual(told(shop), told(replay(formula=FORMULA, deeds=DEEDS)))
        self.assertIsNone(shop.undo())
        self.assertIsNone(shop.redo())
        self.assertEqual(shop.deeds(), DEEDS)

    def test_default_hand(self):
        shop = replay(FORMULA, (("come", (2, 2, 2)),))
        shop.make((1, 1, 1))
        self.assertEqual((shop.made_by(), shop.deeds()[-1]), ({0: 1}, ("make", (1, 1, 1), 0)))

    def test_undo_and_redo(self):
        shop = Shop(FORMULA)
        self.fault(Refused, "undo", shop.undo)
        self.fault(Refused, "redo", shop.redo)
        shop.come((2, 4, 0))
        self.fault(Refused, "redo", shop.redo)
        shop.make((1, 2, 0))
        shop.make((1, 2, 0), hand=1)
        for deeds in (2, 1, 0):
            shop.undo()
            self.assertEqual(len(shop.deeds()), deeds)
        self.fault(Refused, "undo", shop.undo)
        for deeds in (1, 2):
            shop.redo()
            self.assertEqual(len(shop.deeds()), deeds)
        # What cannot be done leaves what can be done again.
        self.fault(Refused, "way", shop.make, (1, 1, 0))
        self.fault(InvalidPool, -1, shop.come, None)
        shop.redo()
        self.assertEqual(shop.made_by(), {0: 1, 1: 1})
        self.fault(Refused, "redo", shop.redo)
        for deed in (("make", (1, 2, 0), 7), ("come", (0, 0, 0))):
            shop.undo()
            shop.come(deed[1]) if deed[0] == "come" else shop.make(deed[1], hand=deed[2])
            self.fault(Refused, "redo", shop.redo)
            self.assertEqual(shop.deeds()[-1], deed)

    def test_great_amounts(self):
        shop = Shop(FORMULA)
        shop.come((GREAT, GREAT - 1, 0))
        self.assertEqual(shop.still(), (GREAT - 1) // 2)
        shop.make((1, 2, 0), hand=GREAT)
        self.assertEqual(shop.made_by(), {GREAT: 1})
        # What was taken has come all the same.
        self.fault(Refused, "much", shop.come, (1, 0, 0))
        self.fault(Refused, "much", shop.come, (0, 2, 0))
        shop.come((0, 1, GREAT))
        self.assertEqual(shop.came(), (GREAT, GREAT, GREAT))
        self.fault(Refused, "much", shop.come, (0, 0, 1))
        # Just the deeds that stand count.
        shop.undo()
        self.fault(InvalidPool, 2, shop.come, (1, 0, GREAT + 1))
        shop.come((0, 0, GREAT))
        shop.come((0, 1, 0))
        self.assertEqual(shop.came(), (GREAT, GREAT, GREAT))

    def test_random_deeds(self):
        """At each moment the pieces made and the ones still there are those from all that came."""
        chance = random.Random(44)
        made = 0
        for formula in some_formulas(440, 60, kinds=4, top=3):
            if len(formula_ways(formula, named(formula))) > 40:
                continue
            shop, plain = Shop(formula), Plain(formula)
            for _ in range(14):
                self.do_one(chance, shop, plain)
                self.assertEqual(told(shop), plain.told())
                self.assertEqual((shop.made() + shop.still(),), lengths(plain.ways, shop.came(), plain.known))
            made += shop.made()
            self.assertEqual(told(replay(formula, shop.deeds())), told(shop))
        self.assertGreater(made, 50)

    def do_one(self, chance, shop, plain):
        word = chance.choice(("come", "make", "make", "make", "undo", "redo"))
        if word == "come":
            deed = (word, tuple(chance.randint(0, 3) for _ in named(shop.formula)))
            shop.come(deed[1])
        elif word == "make":
            deed = (word, chance.choice(plain.ways), chance.randint(0, 2))
            if not within(deed[1], shop.pool()):
                return self.fault(Refused, "short", shop.make, deed[1], hand=deed[2])
            shop.make(deed[1], hand=deed[2])
        elif word == "undo":
            if not plain.deeds:
                return self.fault(Refused, "undo", shop.undo)
            plain.undone.append(plain.deeds.pop())
            return shop.undo()
        else:
            if not plain.undone:
                return self.fault(Refused, "redo", shop.redo)
            plain.deeds.append(plain.undone.pop())
            return shop.redo()
        plain.deeds.append(deed)
        plain.undone.clear()

    def test_many_ways_and_deeds(self):
        way = (60, 0, 0, 0, 0, 0, 0, 0)
        shop = replay(SIXTY, (("come", (GREAT,) * 8),) + (("make", way, 3), ("undo",), ("redo",)) * 100)
        self.assertEqual((shop.made(), shop.made_by(), shop.still()), (100, {3: 100}, 8 * GREAT // 60 - 100))
        shop.make((8, 8, 8, 8, 8, 8, 8, 4))
        self.fault(Refused, "way", shop.make, (8, 8, 8, 8, 8, 8, 8, 8))

    def test_returned_dicts_are_new(self):
        shop = replay(FORMULA, DEEDS)
        shop.made_by().clear()
        self.assertEqual(shop.made_by(), {5: 1})

    def test_wrong_arguments(self):
        shop = replay(FORMULA, DEEDS)
        before = told(shop)
        for amounts in strange_but(3):
            self.fault(InvalidPool, -1, shop.come, amounts)
        for item in strange_numbers() + [GREAT + 1]:
            for at in range(3):
                amounts = tuple(item if k >= at else GREAT for k in range(3))
                self.fault(InvalidPool, at, shop.come, amounts)
        for way in STRANGE + ((1, 1, 2), (2, 4, 0), (0, 0, 0), [1, 2, 0], (1, 2), (1, 2, 0, 0), (True, 2, 0), (1.0, 2, 0),
                              (1, 2, -0.0), (Stubborn(), 2, 0)):
            self.fault(Refused, "way", shop.make, way)
            self.fault(Refused, "way", shop.make, way, hand=None)
        for hand in strange_numbers() + [GREAT + 1]:
            self.fault(InvalidNumber, "hand", shop.make, (1, 2, 0), hand=hand)
        self.fault(Refused, "short", shop.make, (1, 2, 0), hand=GREAT)
        self.assertEqual(told(shop), before)
        with self.assertRaises(TypeError):
            shop.make((1, 0, 2), 5)


class Replay(Case):

    def test_undo_and_redo(self):
        shop = replay(FORMULA, DEEDS + (("undo",), ("undo",), ("redo",)))
        self.assertEqual((shop.made(), shop.pool()), (1, (1, 1, 0)))
        self.assertEqual(shop.deeds(), DEEDS[:2])
        shop.redo()
        self.assertEqual(shop.deeds(), DEEDS)
        self.assertEqual(replay(FORMULA, ()).deeds(), ())
        self.assertEqual(replay(FORMULA, DEEDS + (("undo",),) * 3).deeds(), ())

    def test_is_new(self):
        one, other = replay(FORMULA, DEEDS), replay(FORMULA, DEEDS)
        one.undo()
        self.assertEqual(other.deeds(), DEEDS)

    def test_wrong_values(self):
        for deeds in STRANGE:
            if deeds.__class__ is not tuple:
                self.fault(InvalidRun, -1, replay, FORMULA, deeds)
            elif deeds:
                self.fault(InvalidRun, 0, replay, FORMULA, deeds)
        self.fault(InvalidRun, -1, replay, FORMULA, list(DEEDS))

    def test_wrong_deeds(self):
        wrong = STRANGE + (
            ("come",), ("come", (1, 1)), ("come", [1, 1, 1]), ("come", (1, 1, 1), 0), ("come", (1, 1, -1)),
            ("come", (GREAT - 2, 0, 0)), ("come", None), ["come", (1, 1, 1)], ("Come", (1, 1, 1)),
            ("make", (1, 0, 2)), ("make", (1, 1, 2), 0), ("make", (1, 2, 0), 0), ("make", (1, 0, 2), -1),
            ("make", (1, 0, 2), True), ("make", (1, 0, 2), GREAT + 1), ("make", (1, 0, 2), 0, 0), ("make", None, None),
            ("make", [1, 0, 2], 0), ("undo", 1), ("undo", ()), ("redo",), ("redo", 1), ("still",), ("come", Stubborn()),
            ("make", Stubborn(), Stubborn()), (("undo",),), (Stubborn(), (1, 1, 1)), ("pool",), "undo", ("deeds",),
        )
        for deed in wrong:
            self.fault(InvalidRun, 3, replay, FORMULA, DEEDS + (deed,))
            self.fault(InvalidRun, 3, replay, FORMULA, DEEDS + (deed, deed))
        for deed in (("again",), ("still",), ("make",), ("come",), ("redo", 0)):
            self.fault(InvalidRun, 4, replay, FORMULA, DEEDS + (("undo",), deed))
        self.fault(InvalidRun, 0, replay, FORMULA, (("undo",),))
        self.fault(InvalidRun, 2, replay, FORMULA, (("come", (1, 1, 1)), ("undo",), ("undo",)))
        self.fault(InvalidRun, 3, replay, FORMULA, (("come", (1, 1, 1)), ("undo",), ("come", (0, 0, 0)), ("redo",)))


if __name__ == "__main__":
    unittest.main()
