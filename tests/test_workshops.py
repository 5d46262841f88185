"""Bunches [16.1], a held pairing [16.2], strict workshops [16.3], changes [16.4], deeds [16.5], texts [16.6]."""

import random
import unittest
from itertools import combinations

from helpers import (COVERED, CUBE, FULL, HEXAGON, LENS, LINE, NOT_COVERED, NOT_WEBS, ODD_VALUES, ONE, PETERSEN, PRISM, SHOP,
                     SQUARE, STAR, TRIANGLE, TWIN, WEBS, all_lots, covered_webs, expect, quick_pairings, slow_inner, slow_laid,
                     slow_parts, slow_tight, twisted)
from oncecrossed.covered import covered_holds
from oncecrossed.errors import (BadChange, BadLot, BadPairing, BadPlace, BadRing, BadText, BadTie, BadWeb, Full, Held, NoBunch,
                                NotCovered, NotTight, NothingHeld, NothingToRedo, NothingToUndo, WebError)
from oncecrossed.laid import laid, tight_lots
from oncecrossed.turnings import turned, turning_rings
from oncecrossed.workshops import Workshop, read_workshop

PAIR = (2, ((0, 1),))
TEN = (10, tuple(sorted([(a, a + 1) for a in range(9)] + [(0, 9)])))
THICK = (10, tuple(sorted(TEN[1] * 3)))
WORDS = {"put": 2, "take": 1, "add": 0, "lay": 1, "open": 1, "hold": 1, "turn": 1, "free": 0}


def is_slow_covered(web):
    let = {number for row in quick_pairings(web) for number in row}
    return web[0] > 1 and len(slow_parts(web)) == 1 and len(let) == len(web[1])


def flat(item):
    """The places in an item."""
    return [place for part in item for place in flat(part)] if isinstance(item, (tuple, list)) else [item]


def bunches(items):
    return [part for item in items if isinstance(item, tuple) for part in [item] + bunches(item)]


def words(items):
    return " ".join([f"( {words(item)} )" if isinstance(item, tuple) else str(item) for item in items])


class SlowShop:
    """A workshop whose ties are lists of their own, with a mark for those that are held; deeds are kept as rows of changes."""

    def __init__(self, web, strict):
        self.start, self.strict, self.rows = web, strict, []
        self.build()

    def build(self):
        self.places, self.ties = self.start[0], [[a, b, False] for a, b in self.start[1]]
        self.items, self.holds = list(range(self.places)), False
        for row in self.rows:
            for change in row:
                self.do(*change)

    def base(self):
        return self.places, tuple([(a, b) for a, b, _ in self.ties])

    def held(self):
        return tuple([at for at, tie in enumerate(self.ties) if tie[2]]) if self.holds else None

    def shown(self):
        at = [[place in flat(item) for item in self.items].index(True) for place in range(self.places)]
        found = []
        for number, (a, b, _) in enumerate(self.ties):
            found += [(*sorted([at[a], at[b]]), number)] if at[a] != at[b] else []
        found.sort()
        return (len(self.items), tuple([row[:2] for row in found])), tuple([row[2] for row in found])

    def text(self):
        lines = ["strict workshop" if self.strict else "workshop", f"places {self.places}"]
        lines += [f"{a} {b}" for a, b, _ in self.ties] + ["shows " + words(self.items)]
        return "\n".join(lines + (["holds " + words(self.held())] if self.holds else []))

    def do(self, word, *told):
        if word == "put":
            tie = [min(told), max(told), False]
            after = [at for at, other in enumerate(self.ties) if other[:2] > tie[:2]]
            self.ties.insert(after[0] if after else len(self.ties), tie)
        elif word == "take":
            del self.ties[told[0]]
        elif word == "add":
            self.items.append(self.places)
            self.places += 1
        elif word == "lay":
            bunch = tuple([self.items[at] for at in told[0]])
            self.items = [item for at, item in enumerate(self.items) if at not in told[0]] + [bunch]
        elif word == "open":
            self.items += self.items.pop(told[0])
        elif word == "turn":
            for number in told[0]:
                self.ties[number][2] = not self.ties[number][2]
        else:
            self.holds = word == "hold"
            for number, tie in enumerate(self.ties):
                tie[2] = word == "hold" and number in told[0]

    def fault(self):
        """The error that a strict workshop asks for, None if there is none."""
        if not self.strict:
            return None
        if not is_slow_covered(self.base()):
            return NotCovered
        return None if all([slow_tight(self.base(), flat(item)) for item in bunches(self.items)]) else NotTight


def told_by(shop):
    """All that a workshop tells."""
    return shop.base(), shop.showing(), shop.shown(), shop.held(), shop.held_shown(), shop.is_strict(), shop.deeds(), str(shop)


def told_slowly(slow):
    shown = slow.shown()
    held = slow.held()
    seen = None if held is None else tuple([at for at, number in enumerate(shown[1]) if number in held])
    return slow.base(), tuple(slow.items), shown, held, seen, slow.strict, len(slow.rows), slow.text()


def some_change(slow, chance):
    """A change that is right for what a workshop shows, or nearly; None if the word has none."""
    word = chance.choice(list(WORDS) + ["put", "lay", "take", "lay"])
    rows = quick_pairings(slow.base()) if word in ("hold", "turn") else ()
    if word == "put" and slow.places > 1 and len(slow.ties) < 30:
        return (word, *chance.sample(range(slow.places), 2))
    if word == "take":
        free = [at for at, tie in enumerate(slow.ties) if not tie[2]]
        return (word, chance.choice(free)) if free else None
    if word == "add":
        return (word,) if not slow.holds and slow.places < 10 else None
    if word == "lay" and slow.strict and chance.random() < 0.6:
        inner = slow_inner(slow.shown()[0]) if is_slow_covered(slow.shown()[0]) else ()
        rests = [tuple([at for at in range(len(slow.items)) if at not in lot]) for lot in inner]
        return (word, chance.choice(list(inner) + rests)) if inner else None
    if word == "lay" and len(slow.items) > 2:
        many = chance.choice([3] * 5 + [2, 5])
        return (word, tuple(sorted(chance.sample(range(len(slow.items)), min(many, len(slow.items) - 1)))))
    if word == "open":
        found = [at for at, item in enumerate(slow.items) if isinstance(item, tuple)]
        return (word, chance.choice(found)) if found else None
    if word == "hold" and rows:
        return (word, chance.choice(rows))
    if word == "turn" and slow.holds:
        rings = turning_rings(slow.base(), slow.held(), 12)
        return (word, chance.choice(rings)) if rings else None
    return (word,) if word == "free" and slow.holds else None


class TestAgainstSlowShops(unittest.TestCase):
    def step(self, shop, slow, chance, met):
        """A deal by chance, done in both, or refused."""
        later = SlowShop(slow.start, slow.strict)
        later.rows = list(slow.rows)
        later.build()
        row = []
        for _ in range(chance.choice((0, 1, 1, 1, 2, 3, 6))):
            change = some_change(later, chance)
            if change:
                later.do(*change)
                row.append(change)
        fault = later.fault()
        row = tuple(row)
        before = told_by(shop)
        self.assertIs(shop.would(row), fault is None)
        self.assertEqual(told_by(shop), before)
        if fault:
            with self.assertRaises(fault) as caught:
                shop.deal(row) if len(row) != 1 else shop.change(row[0])
            self.check_fault(later, caught.exception)
            self.assertEqual(told_by(shop), before)
        else:
            self.assertIsNone(shop.deal(row) if len(row) != 1 else shop.change(row[0]))
            slow.rows.append(row)
            slow.build()
        met[fault] = met.get(fault, 0) + 1

    def check_fault(self, slow, error):
        if error.__class__ is NotCovered:
            self.assertNotEqual(error.certificate[0], "covered")
            self.assertIs(covered_holds(slow.base(), error.certificate), True)
        else:
            self.assertIn(error.pairing, quick_pairings(slow.base()))
            lots = [set(flat(item)) for item in bunches(slow.items)]
            ties = [slow.base()[1][number] for number in error.pairing]
            self.assertTrue(any([len([tie for tie in ties if len(lot & set(tie)) == 1]) != 1 for lot in lots]))

    def walk(self, web, strict, chance, many, met):
        shop, slow, undone = Workshop(web, strict), SlowShop(web, strict), []
        for _ in range(many):
            kind = chance.random()
            if kind < 0.2 and slow.rows:
                shop.undo()
                undone.append(slow.rows.pop())
                slow.build()
            elif kind < 0.35 and undone:
                shop.redo()
                slow.rows.append(undone.pop())
                slow.build()
            elif kind < 0.4:
                self.check_ends(shop, slow, undone)
            else:
                deeds = len(slow.rows)
                self.step(shop, slow, chance, met)
                undone = undone if len(slow.rows) == deeds else []
            self.assertEqual(told_by(shop), told_slowly(slow))
            self.assertEqual(told_by(read_workshop(str(shop)))[:6], told_by(shop)[:6])
            self.assertTrue(read_workshop(str(shop)) == shop)
            met["deep"] = max(met.get("deep", 0), max([depth_of(item) for item in slow.items]))
        return shop, slow

    def check_ends(self, shop, slow, undone):
        if not slow.rows:
            self.assertRaises(NothingToUndo, shop.undo)
        if not undone:
            self.assertRaises(NothingToRedo, shop.redo)

    def test_loose(self):
        chance = random.Random(260)
        met = {}
        for web in (ONE, PAIR, SQUARE, FULL, HEXAGON, PRISM, STAR, TRIANGLE, LENS, TEN, (3, ()), THICK, PETERSEN, LINE):
            for _ in range(3):
                self.walk(web, False, chance, 30, met)
        self.assertEqual(set(met), {None, "deep"})
        self.assertGreater(met["deep"], 3)

    def test_strict(self):
        chance = random.Random(261)
        met = {}
        for web in [web for web in COVERED if web[0] <= 10 and len(quick_pairings(web)) <= 200] + [TEN, PAIR]:
            for _ in range(3):
                self.walk(web, True, chance, 30, met)
        self.assertGreater(min(met[None], met[NotCovered], met[NotTight]), 50, met)
        self.assertGreater(met["deep"], 1)

    def test_strict_shows_covered_webs(self):
        chance = random.Random(262)
        for web in (HEXAGON, LENS, TEN, CUBE):
            shop, slow = self.walk(web, True, chance, 40, {})
            self.assertTrue(is_slow_covered(shop.shown()[0]))
            shop = Workshop(web, strict=True)
            for lot in tight_lots(web) if web[0] <= 10 else ():
                shop.change(("lay", lot))
                self.assertTrue(is_slow_covered(shop.shown()[0]))
                for row in quick_pairings(web):
                    shop.change(("hold", row))
                    self.assertIn(shop.held_shown(), quick_pairings(shop.shown()[0]))
                    shop.undo()
                shop.undo()

    def test_laying(self):
        for web in (HEXAGON, PRISM, FULL, (5, ((0, 3), (0, 3), (1, 2), (1, 4), (2, 4)))):
            for lot in [lot for lot in all_lots(web) if 2 <= len(lot) < web[0]]:
                shop = Workshop(web)
                shop.change(("lay", lot))
                self.assertEqual(shop.shown(), slow_laid(web, lot))
                for more in [more for more in all_lots(shop.shown()[0]) if 2 <= len(more) < shop.shown()[0][0]]:
                    again = laid(shop.shown()[0], more)
                    other = shop.copied()
                    other.change(("lay", more))
                    self.assertEqual(other.shown()[0], again[0])
                    self.assertEqual(sorted(other.shown()[1]), sorted([shop.shown()[1][at] for at in again[1]]))


def depth_of(item):
    return 1 + max([depth_of(part) for part in item]) if isinstance(item, tuple) else 0


class TestKnown(unittest.TestCase):
    def test_new(self):
        for web in [web for web in WEBS if len(web[1]) <= 30]:
            shop = Workshop(web)
            self.assertEqual(told_by(shop)[:7], (web, tuple(range(web[0])), (web, tuple(range(len(web[1])))), None, None, False, 0))
        shop = Workshop(web=SQUARE, strict=True)
        self.assertIs(shop.is_strict(), True)
        self.assertIs(Workshop(SQUARE, False).is_strict(), False)
        for web in COVERED:
            self.assertEqual(Workshop(web, True).base(), web)

    def test_held(self):
        shop = Workshop(SQUARE)
        self.assertIsNone(shop.change(change=("hold", (0, 3))))
        shop.change(("put", 1, 0))
        self.assertEqual((shop.base()[1], shop.held()), (((0, 1), (0, 1), (0, 3), (1, 2), (2, 3)), (0, 4)))
        shop.change(("put", 2, 1))
        self.assertEqual((shop.held(), shop.held_shown()), ((0, 5), (0, 5)))
        shop.change(("take", 1))
        self.assertEqual(shop.held(), (0, 4))
        shop.change(("lay", (0, 1)))
        self.assertEqual((shop.shown(), shop.held_shown()), (((3, ((0, 1), (0, 2), (0, 2), (1, 2))), (4, 2, 3, 1)), (0,)))
        shop.change(("turn", (0, 1, 4, 2)))
        self.assertEqual((shop.held(), shop.held_shown()), ((1, 2), (1, 3)))
        shop.change(("hold", (1, 3)))
        self.assertEqual(shop.held(), (1, 3))
        shop.change(("free",))
        self.assertEqual((shop.held(), shop.held_shown()), (None, None))
        self.assertEqual(shop.deeds(), 8)

    def test_bunches(self):
        shop = Workshop(TEN)
        for _ in range(8):
            shop.change(("lay", (0, len(shop.showing()) - 1)))
        self.assertEqual(shop.showing(), (8, (7, (6, (5, (4, (3, (2, (1, (0, 9))))))))))
        self.assertEqual(shop.shown(), ((2, ((0, 1), (0, 1))), (8, 9)))
        self.assertTrue(read_workshop(str(shop)) == shop)
        shop.change(("open", 1))
        self.assertEqual(shop.showing(), (8, 7, (6, (5, (4, (3, (2, (1, (0, 9)))))))))
        shop = Workshop(HEXAGON)
        shop.change(("lay", (1, 4)))
        shop.change(("lay", (0, 4)))
        shop.change(("open", 3))
        self.assertEqual(shop.showing(), (2, 3, 5, 0, (1, 4)))
        shop.change(("add",))
        self.assertEqual(shop.showing(), (2, 3, 5, 0, (1, 4), 6))
        self.assertEqual(shop.base()[0], 7)

    def test_one_place(self):
        shop = Workshop(ONE)
        self.assertEqual(str(shop), "workshop\nplaces 1\nshows 0")
        self.assertEqual(shop.shown(), (ONE, ()))
        for lot in ((), (0,), (0, 1)):
            self.assertRaises(BadLot, shop.change, ("lay", lot))
        shop.deal((("add",), ("put", 0, 1), ("hold", (0,))))
        self.assertEqual(str(shop), "workshop\nplaces 2\n0 1\nshows 0 1\nholds 0")

    def test_between_two_changes_of_a_deal(self):
        # Between the changes the base is not covered, or a bunch not tight, and at the end all is right again.
        shop = Workshop(HEXAGON, True)
        self.assertIs(shop.would(changes=(("take", 1),)), False)
        self.assertIs(shop.would((("take", 1), ("put", 0, 5))), True)
        shop.deal((("take", 1), ("put", 5, 0), ("hold", (0, 3, 5))))
        shop.deal(changes=(("lay", (0, 1)), ("lay", (0, 4)), ("open", 3), ("open", 4)))
        self.assertEqual(shop.showing(), (3, 4, 5, 2, 0, 1))
        shop.deal((("lay", (0, 1)), ("open", 4), ("free",), ("add",), ("add",), ("put", 5, 6), ("put", 6, 7), ("put", 7, 0)))
        self.assertEqual(shop.base(), (8, ((0, 1), (0, 5), (0, 7), (1, 2), (2, 3), (3, 4), (4, 5), (5, 6), (6, 7))))
        self.assertEqual(shop.deeds(), 3)
        shop.undo()
        shop.undo()
        self.assertEqual((shop.showing(), shop.base(), shop.deeds()), ((0, 1, 2, 3, 4, 5), HEXAGON, 1))

    def test_deeds(self):
        shop = Workshop(SQUARE)
        self.assertRaises(NothingToUndo, shop.undo)
        self.assertRaises(NothingToRedo, shop.redo)
        self.assertIsNone(shop.deal(()))
        self.assertEqual((shop.deeds(), shop.base()), (1, SQUARE))
        shop.deal((("put", 0, 1), ("take", 1)))
        self.assertEqual((shop.deeds(), shop.base()), (2, SQUARE))
        shop.change(("hold", (0, 3)))
        self.assertIsNone(shop.undo())
        self.assertIsNone(shop.undo())
        self.assertEqual((shop.deeds(), shop.held()), (1, None))
        self.assertIsNone(shop.redo())
        shop.redo()
        self.assertEqual((shop.deeds(), shop.held()), (3, (0, 3)))
        self.assertRaises(NothingToRedo, shop.redo)
        shop.undo()
        self.assertRaises(BadTie, shop.change, ("take", 9))
        shop.redo()
        shop.undo()
        shop.deal(())
        self.assertRaises(NothingToRedo, shop.redo)
        self.assertEqual(shop.deeds(), 3)

    def test_copies(self):
        shop = Workshop(HEXAGON, True)
        shop.change(("lay", (0, 1, 2)))
        shop.change(("hold", (0, 3, 5)))
        shop.undo()
        other = shop.copied()
        self.assertTrue(other == shop and told_by(other) == told_by(shop))
        other.redo()
        self.assertEqual((other.held(), shop.held()), ((0, 3, 5), None))
        self.assertFalse(other == shop)
        shop.undo()
        self.assertEqual((shop.deeds(), other.deeds()), (0, 2))
        other.change(("free",))
        shop.redo()
        shop.redo()
        self.assertEqual(shop.held(), (0, 3, 5))
        other.undo()
        self.assertTrue(other == shop)
        third = other.copied()
        third.deal(())
        other.redo()
        self.assertRaises(NothingToRedo, third.redo)
        self.assertIsNone(other.held())

    def test_equal(self):
        shop = Workshop(SQUARE)
        self.assertTrue(shop == Workshop(SQUARE) and not shop != Workshop(SQUARE))
        for other in (Workshop(SQUARE, True), Workshop(HEXAGON), str(shop), SQUARE, None, True, (shop,), [shop], SHOP, 0):
            self.assertFalse(shop == other)
            self.assertTrue(shop != other)
        busy = Workshop(SQUARE)
        busy.deal((("put", 0, 1), ("take", 0)))
        self.assertTrue(shop == busy)
        busy.change(("lay", (2, 3)))
        self.assertFalse(shop == busy)
        busy.change(("open", 2))
        self.assertTrue(shop == busy)
        busy.change(("hold", (0, 3)))
        self.assertFalse(shop == busy)
        self.assertIs(shop == busy, False)
        self.assertIs(shop == shop.copied(), True)


class TestErrors(unittest.TestCase):
    def refuse(self, shop, kind, told, change):
        """Fails if a change does not raise just this error, or changes anything; also as a part of deals."""
        before = told_by(shop)
        with self.assertRaises(WebError) as caught:
            shop.change(change)
        self.assertIs(caught.exception.__class__, kind, change)
        self.assertEqual([repr(value) for value in vars(caught.exception).values()], [repr(value) for value in told], change)
        for ahead in ((), (("put", 0, 1), ("take", 0)), (("put", 0, 1),) * 2):
            for behind in ((), (("put", 0, 1),), (None,)):
                if len(shop.base()[1]) + 2 <= 30 and not (ahead and shop.held()):
                    row = ahead + (change,) + behind
                    if len(ahead) == 2 and ahead[1][0] == "put" and change and change[0] in ("take", "turn", "hold"):
                        continue
                    expect_at(self, len(ahead), shop, row)
        self.assertEqual(told_by(shop), before)

    def test_words(self):
        shop = Workshop(SQUARE)
        wrong = list(ODD_VALUES) + [("put",), ("put", 0), ("put", 0, 1, 2), ("take",), ("take", 0, 1), ("add", 0), ("lay",),
                                    ("lay", (0, 1), 2), ("open",), ("open", 0, 0), ("hold",), ("hold", 1, 2), ("turn",),
                                    ("turn", (), ()), ("free", 0), ["put", 0, 1], "put", ("Put", 0, 1), ("put ", 0, 1), ((),),
                                    (["put"], 0, 1), ("undo",), ("shut", 0), (SHOP,), (SHOP, 0, 1), ({}, 0), (0, 0, 1), (b"put", 0, 1),
                                    ("put", None), ("lay", None, None), ("open", SHOP, SHOP)]
        for value in wrong:
            expect(self, BadChange, 0, shop.change, value)
        self.assertEqual(shop.deeds(), 0)

    def test_put(self):
        shop = Workshop(SQUARE)
        for value in [value for value in ODD_VALUES if isinstance(value, bool) or value not in (0, 1)] + [4, -1, "0", (0,)]:
            self.refuse(shop, BadPlace, [value], ("put", value, 1))
            self.refuse(shop, BadPlace, [value], ("put", value, None))
            self.refuse(shop, BadPlace, [value], ("put", 0, value))
        self.refuse(shop, BadPlace, [2], ("put", 2, 2))
        full = Workshop(THICK)
        self.refuse(full, Full, [], ("put", 0, 1))
        self.refuse(full, BadPlace, [0], ("put", 0, 0))
        self.refuse(full, BadPlace, [10], ("put", 10, 0))
        full.deal((("take", 0), ("put", 4, 2)))
        self.assertEqual(len(full.base()[1]), 30)
        self.refuse(full, Full, [], ("put", 0, 1))

    def test_take_and_add(self):
        shop = Workshop(SQUARE)
        for value in [value for value in ODD_VALUES if isinstance(value, bool) or value not in (0, 1)] + [-1, "0", (0,)]:
            self.refuse(shop, BadTie, [value], ("take", value))
        expect(self, BadTie, 4, shop.change, ("take", 4))
        shop.change(("hold", (0, 3)))
        for number in (0, 3):
            self.refuse(shop, Held, [], ("take", number))
        self.refuse(shop, BadTie, [4], ("take", 4))
        self.refuse(shop, Held, [], ("add",))
        shop.change(("take", 1))
        self.assertEqual(shop.held(), (0, 2))
        full = Workshop(TEN)
        self.refuse(full, Full, [], ("add",))
        full.change(("hold", quick_pairings(TEN)[0]))
        self.refuse(full, Held, [], ("add",))
        full.deal((("free",), ("take", 0)))
        self.refuse(full, Full, [], ("add",))

    def test_lay_and_open(self):
        shop = Workshop(SQUARE)
        for value in [value for value in ODD_VALUES if repr(value) not in ("(0, 1)", "(0, 1, 2)")] + [(0, 4), (1, 0), (3,), (),
                                                                                          (0, 1, 2, 3), [0, 1], (0, True)]:
            self.refuse(shop, BadLot, [value], ("lay", value))
        for value in [value for value in ODD_VALUES if isinstance(value, bool) or value not in (0, 1)] + [4, -1, "0", (0,)]:
            self.refuse(shop, BadPlace, [value], ("open", value))
        for place in range(4):
            self.refuse(shop, NoBunch, [place], ("open", place))
        shop.change(("lay", (0, 3)))
        self.refuse(shop, BadLot, [(0, 3)], ("lay", (0, 3)))
        self.refuse(shop, BadLot, [(0, 1, 2)], ("lay", (0, 1, 2)))
        self.refuse(shop, BadPlace, [3], ("open", 3))
        self.refuse(shop, NoBunch, [1], ("open", 1))
        self.assertEqual(shop.showing(), (1, 2, (0, 3)))

    def test_hold_turn_and_free(self):
        shop = Workshop(SQUARE)
        for value in list(ODD_VALUES) + twisted((0, 3)) + [(0, 1), (3, 0), (0,)]:
            self.refuse(shop, BadPairing, [value], ("hold", value))
            self.refuse(shop, NothingHeld, [], ("turn", value))
        self.refuse(shop, NothingHeld, [], ("turn", (0, 1, 3, 2)))
        self.refuse(shop, NothingHeld, [], ("free",))
        shop.change(("hold", (0, 3)))
        for value in list(ODD_VALUES) + twisted((0, 1, 3, 2)) + [(2, 3, 1, 0), (1, 3, 2, 0)]:
            self.refuse(shop, BadRing, [value], ("turn", value))
        shop.change(("turn", (0, 1, 3, 2)))
        self.assertEqual(shop.held(), turned(SQUARE, (0, 3), (0, 1, 3, 2)))

    def test_strict(self):
        shop = Workshop(HEXAGON, True)
        for change in [("take", number) for number in range(6)] + [("put", 0, 2), ("add",), ("put", 1, 5)]:
            with self.assertRaises(NotCovered) as caught:
                shop.change(change)
            slow = SlowShop(HEXAGON, True)
            slow.do(*change)
            self.assertNotEqual(caught.exception.certificate[0], "covered")
            self.assertTrue(covered_holds(slow.base(), caught.exception.certificate))
        for lot in ((0, 1), (0, 2, 4), (1, 2, 4), (0, 1, 2, 3), (0, 3)):
            with self.assertRaises(NotTight) as caught:
                shop.change(("lay", lot))
            ties = [HEXAGON[1][number] for number in caught.exception.pairing]
            self.assertNotEqual(len([tie for tie in ties if len(set(lot) & set(tie)) == 1]), 1)
        # What is not covered is told first; a bunch within a bunch is looked at, too.
        self.assertRaises(NotCovered, shop.deal, (("lay", (0, 1)), ("take", 0)))
        shop.change(("lay", (0, 1, 2)))
        self.assertRaises(NotTight, shop.deal, (("open", 3), ("lay", (3, 4)), ("lay", (3, 4))))
        # A tie that is put may make a bunch loose.
        shop = Workshop(TEN, True)
        shop.change(("lay", (0, 1, 2)))
        self.assertRaises(NotTight, shop.deal, (("put", 1, 4), ("put", 1, 8)))
        self.assertEqual(shop.deeds(), 1)

    def test_deals(self):
        shop = Workshop(SQUARE, True)
        for value in [value for value in ODD_VALUES if not isinstance(value, tuple)] + ["put", ["put", 0, 1], [("add",)], SHOP]:
            expect(self, BadChange, -1, shop.deal, value)
            self.assertIs(shop.would(value), False)
        good = ("put", 0, 1)
        for bad in (("put", 0, 4), None, ("take", 99), ("open", 0), ("free",), ("lay", (0,)), (), SHOP, ("hold", (0, 1)), ("turn", ())):
            for row in ((bad,), (bad, good), (good, bad), (good, bad, good), (good, good, bad, bad), (good,) * 11 + (bad,)):
                expect_at(self, row.index(bad), shop, row)
        # A wrong change is told ahead of what a strict workshop asks.
        expect_at(self, 1, shop, (("take", 0), None))
        self.assertRaises(NotCovered, shop.deal, (("take", 0),))
        self.assertEqual((shop.deeds(), shop.base()), (0, SQUARE))
        self.assertIs(shop.would(()), True)
        self.assertIs(shop.would((good,)), True)
        self.assertEqual(shop.deeds(), 0)
        for value in list(ODD_VALUES) + twisted((good, ("lay", (0, 1)))):
            before = told_by(shop)
            self.assertIn(shop.would(value), (True, False))
            self.assertEqual(told_by(shop), before)

    def test_new(self):
        for value in NOT_WEBS:
            expect(self, BadWeb, value, Workshop, value)
            expect(self, BadWeb, value, Workshop, value, True)
        for web in NOT_COVERED:
            with self.assertRaises(NotCovered) as caught:
                Workshop(web, True)
            self.assertNotEqual(caught.exception.certificate[0], "covered")
            self.assertTrue(covered_holds(web, caught.exception.certificate))
            self.assertEqual(Workshop(web).base(), web)


def expect_at(case, at, shop, row):
    """Fails if a deal does not raise BadChange with the position of a change."""
    before = told_by(shop)
    expect(case, BadChange, at, shop.deal, row)
    case.assertIs(shop.would(row), False)
    case.assertEqual(told_by(shop), before)


def slow_wrong_line(text):
    """The number of the first wrong line of a text, 0 if there is none; by the document's words."""
    lines = text.split("\n")
    if lines[0] not in ("workshop", "strict workshop"):
        return 1
    if len(lines) < 2 or lines[1] not in [f"places {many}" for many in range(1, 13)]:
        return 2
    places = int(lines[1].split()[1])
    pairs = list(combinations(range(places), 2))
    ties = []
    at = 2
    while at < len(lines) and lines[at] in [f"{a} {b}" for a, b in pairs]:
        pair = tuple([int(word) for word in lines[at].split()])
        if ties and pair < ties[-1]:
            return at + 1
        ties.append(pair)
        at += 1
    web = (places, tuple(ties))
    if at == len(lines) or not is_shows(lines[at], web, lines[0] == "strict workshop"):
        return at + 1
    if at + 1 == len(lines):
        return 0
    if lines[at + 1] not in ["holds " + " ".join([str(number) for number in row]) for row in quick_pairings(web)]:
        return at + 2
    return 0 if at + 2 == len(lines) else at + 3


def is_shows(line, web, strict):
    """Whether a line tells a showing: it is read as a value, and told again."""
    if not line.startswith("shows ") or not set(line[6:]) <= set("0123456789() "):
        return False
    told = line[6:].split(" ")
    try:
        showing = eval("(" + "".join([word if word == "(" else word + "," for word in told]) + ")")
    except SyntaxError:
        return False
    if "shows " + words(showing) != line or sorted(flat(showing)) != list(range(web[0])):
        return False
    if any([len(item) < 2 for item in bunches(showing)]) or len(showing) < min(2, web[0]):
        return False
    return not strict or is_slow_covered(web) and all([slow_tight(web, flat(item)) for item in bunches(showing)])


def some_shops():
    chance = random.Random(263)
    found = [Workshop(ONE), Workshop(PAIR, True), Workshop(STAR), Workshop((3, ())), Workshop(THICK)]
    for web, strict, row in ((HEXAGON, True, (("lay", (0, 1, 2)), ("hold", (0, 3, 5)))),
                             (HEXAGON, False, (("lay", (0, 1)), ("lay", (0, 4)), ("hold", (1, 2, 4)))),
                             (TEN, True, (("lay", (0, 1, 2)), ("lay", (0, 1, 7)), ("lay", (0, 1, 5)))),
                             (FULL, True, (("hold", (1, 4)),)), (TEN, False, (("lay", (0, 5)), ("lay", (3, 8)), ("lay", (2, 4, 7)))),
                             (LENS, True, (("lay", (0, 2, 3)),)), (SQUARE, False, (("put", 0, 1), ("hold", (1, 4))))):
        shop = Workshop(web, strict)
        shop.deal(row)
        found.append(shop)
    for web in covered_webs(264, 4, 8, 10):
        found.append(Workshop(web, chance.choice((True, False))))
    return found


class TestTexts(unittest.TestCase):
    def check(self, text):
        wrong = slow_wrong_line(text)
        if wrong:
            expect(self, BadText, wrong, read_workshop, text)
        else:
            shop = read_workshop(text=text)
            self.assertEqual((str(shop), shop.deeds()), (text, 0))
            self.assertRaises(NothingToUndo, shop.undo)
            self.assertRaises(NothingToRedo, shop.redo)
        return wrong

    def test_read_back(self):
        for shop in some_shops():
            self.assertEqual(self.check(str(shop)), 0)
            self.assertTrue(read_workshop(str(shop)) == shop)
            self.assertEqual(told_by(read_workshop(str(shop)))[:6], told_by(shop)[:6])

    def test_known(self):
        shop = Workshop(HEXAGON, strict=True)
        shop.deal((("lay", (0, 1, 2)), ("hold", (0, 3, 5))))
        self.assertEqual(str(shop), "strict workshop\nplaces 6\n0 1\n0 5\n1 2\n2 3\n3 4\n4 5\nshows 3 4 5 ( 0 1 2 )\nholds 0 3 5")

    def test_lines_changed(self):
        met = set()
        for shop in some_shops():
            lines = str(shop).split("\n")
            for at, line in enumerate(lines):
                ahead, behind = lines[:at], lines[at + 1:]
                words_of_line = line.split(" ")
                other = [[], [line, line], [line + " "], [" " + line], [line.replace(" ", "  ", 1)], [line.upper()], [line, ""],
                         [""], ["\t" + line], [line + "\r"], [line.replace(" ", "")], ["shows"], ["holds"], ["holds 0"], ["0 1"],
                         ["workshop"], ["places 4"], [line + " 0"], [line + " )"], [line + " ( 0 1 )"], [" ".join(words_of_line[::-1])],
                         [line.replace("0", "00")], [line.replace("0", "+0")], [line.replace("1", "01")], [line.replace("( ", "(")],
                         [line.replace("( ", "", 1)], [line.replace(" )", "", 1)], [line.replace("( ", "( ( ").replace(" )", " ) )")],
                         [line.replace("( ", "[ ").replace(" )", " ]")], ["shows ( " + line[6:] + " )"], [line.replace("(", "( (", 1)],
                         [line.replace(" )", " ) )", 1)], [line.replace("( ", ") ", 1)], [line.replace("( ", "( ) ", 1)]]
                other += [[" ".join(words_of_line[:k] + words_of_line[k + 1:])] for k in range(len(words_of_line))]
                other += [[" ".join(words_of_line[:k] + words_of_line[k:][:2][::-1] + words_of_line[k + 2:])]
                          for k in range(len(words_of_line) - 1)]
                for new in other:
                    met.add(self.check("\n".join(ahead + new + behind)))
                if behind:
                    met.add(self.check("\n".join(ahead + [behind[0], line] + behind[1:])))
                met.add(self.check("\n".join(lines[:at])))
                met.add(self.check("\n".join(lines[at:])))
            self.check("\n".join(lines + [""]))
            self.check("\n".join(lines + ["holds 0"]))
            for head in ("workshop", "strict workshop", "Workshop", "strict", "strict  workshop", "workshop strict"):
                met.add(self.check("\n".join([head] + lines[1:])))
        self.assertLessEqual(set(range(9)), met)

    def test_strict_texts(self):
        for text, line in (("strict workshop\nplaces 4\n0 1\n1 2\n2 3\nshows 0 1 2 3", 6), ("strict workshop\nplaces 1\nshows 0", 3),
                           ("strict workshop\nplaces 4\n0 1\n1 2\n2 3\nshows 0 1 2 3\nholds 9", 6),
                           ("strict workshop\nplaces 4\n0 1\n1 2\n2 3\nshows 0 1 2 3 3", 6),
                           ("strict workshop\nplaces 4\n0 1\n1 2\n2 3\n1 2\nshows 0 1 2 3", 6),
                           ("strict workshop\nplaces 2\n0 1\nshows 0 1\nholds 0\n", 6), ("workshop\nplaces 2\n0 1\nshows 0 1\nholds", 5),
                           ("strict workshop\nplaces 4\n0 1\n0 3\n1 2\n2 3\nshows ( 0 1 ) 2 3", 7),
                           ("workshop\nplaces 4\n0 1\n0 3\n1 2\n2 3\nshows ( 0 1 ) 2 3", 0),
                           ("workshop\nplaces 2\nshows ( 0 1 )", 3), ("workshop\nplaces 1\nshows ( 0 )", 3),
                           ("workshop\nplaces 2\nshows 1 0", 0), ("workshop\nplaces 2\nshows 1 0\nholds ", 4),
                           ("workshop\nplaces 2\nshows 1 0\nholds 0", 4), ("workshop", 2), ("workshop\n", 2), ("", 1), ("\n", 1),
                           ("workshop\nplaces 2", 3), ("workshop\nplaces 2\n0 1", 4), ("workshop\nplaces 2\n0 1\n", 4),
                           ("workshop\nplaces 13\nshows 0", 2), ("workshop\nplaces 2\n0 1\nshows 0 ( 1", 4), ("workshop\nshows 0", 2)):
            self.assertEqual(self.check(text), line, text)

    def test_many_brackets(self):
        for text in ("( " * 900, "( 0 " * 450, "( 0 ( 1 " * 220, ") " * 900, "0 " * 900):
            expect(self, BadText, 3, read_workshop, "workshop\nplaces 10\nshows " + text + "1")

    def test_no_strings(self):
        for value in [value for value in ODD_VALUES if not isinstance(value, str)] + [SHOP, ["workshop"], b"workshop"]:
            expect(self, BadText, 0, read_workshop, value)
        for value in [value for value in ODD_VALUES if isinstance(value, str)]:
            expect(self, BadText, 1, read_workshop, value)


if __name__ == "__main__":
    unittest.main()
