"""Laying together [4.1], tight cuts [4.2], both sides [4.3], tight lots that cross [4.4]."""

import unittest
from itertools import product

from helpers import (BARE, BIG_RING, COVERED, CUBE, DOUBLE_PETERSEN, FULL, HEXAGON, LADDER, LENS, NOT_WEBS, ODD_VALUES,
                     ONE, PETERSEN, PRISM, SPLIT_PETERSEN, SQUARE, THICK_RING, THREES, TIED_PETERSEN, TWIN, WEBS, all_lots,
                     covered_webs, expect, expect_bad_webs, quick_pairings, random_webs, slow_cut, slow_inner,
                     slow_laid, slow_tight, twisted)
from oncecrossed.covered import is_covered
from oncecrossed.errors import BadLot, BadPairing, BadWeb, NotTight
from oncecrossed.laid import is_tight, joined_pairing, laid, loose_pairing, sides_of, tight_lots
from oncecrossed.pairings import is_pairing, pairings
from oncecrossed.webs import is_web

SMALL = tuple([web for web in COVERED if web[0] <= 8])


def proper_lots(web):
    """All lots but () and that of all places."""
    return all_lots(web)[1:-1]


class TestLaid(unittest.TestCase):
    def test_known(self):
        self.assertEqual(laid(web=FULL, lot=(2, 3)),
                         ((3, ((0, 1), (0, 2), (0, 2), (1, 2), (1, 2))), (0, 1, 2, 3, 4)))
        self.assertEqual(laid(FULL, (0, 2, 3)), ((2, ((0, 1), (0, 1), (0, 1))), (0, 3, 4)))
        self.assertEqual(laid(FULL, (0,)), ((4, FULL[1]), (3, 4, 0, 5, 1, 2)))
        self.assertEqual(laid((2, ()), (1,)), ((2, ()), ()))
        self.assertEqual(laid((3, ((0, 1),)), (0, 1)), ((2, ()), ()))

    def test_against_the_definition(self):
        for web in list(WEBS) + list(COVERED) + random_webs(60, 150, 6, 14):
            for lot in proper_lots(web)[::1 if web[0] < 9 else 37]:
                self.assertEqual(laid(web, lot), slow_laid(web, lot), (web, lot))
                self.assertIs(is_web(laid(web, lot)[0]), True)

    def test_doubled_ties(self):
        web = (4, ((0, 1), (0, 2), (0, 2), (0, 3), (1, 2), (1, 2), (1, 3)))
        self.assertEqual(laid(web, (0, 1)), ((3, ((0, 2),) * 4 + ((1, 2),) * 2), (1, 2, 4, 5, 3, 6)))

    def test_one_behind_the_other(self):
        # Lots within one another: what is laid twice is the same web as what is laid once, with the same ties.
        for web in (PETERSEN, CUBE, DOUBLE_PETERSEN, LENS):
            inner, numbers = laid(web, (1, 2))
            outer, behind = laid(inner, (1, inner[0] - 1))
            whole, direct = laid(web, (1, 2, 3))
            self.assertEqual(outer, whole)
            self.assertEqual(sorted([numbers[at] for at in behind]), sorted(direct))
            for at, ends in enumerate(outer[1]):
                self.assertEqual(inner[1][behind[at]], laid(web, (1, 2))[0][1][behind[at]])
                self.assertEqual(whole[1][direct.index(numbers[behind[at]])], ends)

    def test_numbers_that_do_not_ascend_in_the_whole_web(self):
        inner, numbers = laid(LENS, (1, 4, 5))
        self.assertEqual(numbers, (1, 2, 0, 3, 4, 9, 5, 6))
        self.assertEqual(inner[1][2:5], ((0, 3),) * 3)

    def test_bad_values(self):
        for value in NOT_WEBS:
            expect(self, BadWeb, value, laid, value, (0,))
            expect(self, BadWeb, value, laid, value, None)
        for value in list(ODD_VALUES) + [(0, 1, 2, 3), (4,), (1, 1), (2, 1), (0, 3, 4), [1, 2], (1.0,)]:
            if repr(value) not in ("(0,)", "(0, 1)", "(0, 1, 2)"):
                expect(self, BadLot, value, laid, FULL, value)
        for lot in ((), (0,)):
            expect(self, BadLot, lot, laid, ONE, lot)


class TestTight(unittest.TestCase):
    def test_all_lots(self):
        for web in list(SMALL) + covered_webs(61, 120, 8, 14):
            for lot in proper_lots(web):
                tight = slow_tight(web, lot)
                self.assertIs(is_tight(web, lot), tight, (web, lot))
                loose = loose_pairing(web, lot)
                if tight:
                    self.assertIsNone(loose)
                    self.assertEqual(len(lot) % 2, 1)
                else:
                    self.assertIs(is_pairing(web, loose), True)
                    self.assertNotEqual(len(set(loose) & set(slow_cut(web, lot))), 1)

    def test_great_webs(self):
        for web in (PETERSEN, DOUBLE_PETERSEN, SPLIT_PETERSEN, TIED_PETERSEN, BIG_RING, THICK_RING, LADDER):
            for lot in proper_lots(web)[::29] + [(0,), (0, 1, 2), (9, 10, 11)[:web[0] - 9]]:
                self.assertIs(is_tight(web, lot), slow_tight(web, lot), (web, lot))
        self.assertIs(is_tight(SPLIT_PETERSEN, (9, 10, 11)), True)
        self.assertIs(is_tight(TIED_PETERSEN, (0, 10, 11)), True)
        self.assertIs(is_tight(web=TIED_PETERSEN, lot=(1, 10, 11)), True)
        self.assertIs(is_tight(TIED_PETERSEN, (9, 10, 11)), False)

    def test_single_places_and_their_rests(self):
        for web in COVERED:
            for place in range(web[0]):
                rest = tuple([other for other in range(web[0]) if other != place])
                self.assertIs(is_tight(web, (place,)), True)
                self.assertIs(is_tight(web, rest), True)
                self.assertIsNone(loose_pairing(web, rest))

    def test_known(self):
        self.assertIs(is_tight(HEXAGON, (0, 1, 2)), True)
        self.assertIs(is_tight(HEXAGON, (0, 1)), False)
        self.assertIs(is_tight(HEXAGON, (0, 2, 4)), False)
        self.assertEqual(loose_pairing(web=PRISM, lot=(0, 1, 2)), (2, 4, 5))

    def test_tight_lots(self):
        self.assertEqual(tight_lots(web=HEXAGON), ((0, 1, 2), (0, 1, 5), (0, 4, 5)))
        self.assertEqual(tight_lots(LENS), ((0, 2, 3), (0, 4, 5)))
        for web in (TWIN, SQUARE, FULL, PRISM, PETERSEN, DOUBLE_PETERSEN, THREES, CUBE):
            self.assertEqual(tight_lots(web), (), web)
        for web in list(SMALL) + covered_webs(62, 150, 10, 20):
            self.assertEqual(tight_lots(web), slow_inner(web), web)

    def test_bad_values(self):
        for call in (is_tight, loose_pairing, sides_of):
            expect_bad_webs(self, BadWeb, call, (0,))
            expect_bad_webs(self, BadWeb, call, [0])
        expect_bad_webs(self, BadWeb, tight_lots)
        for value in ODD_VALUES + ((0, 1, 2, 3, 4, 5), (6,), (0, 1, 6), [0, 1, 2]):
            if repr(value) not in ("(0,)", "(0, 1)", "(0, 1, 2)"):
                for call in (is_tight, loose_pairing, sides_of):
                    expect(self, BadLot, value, call, HEXAGON, value)
                expect(self, BadLot, value, joined_pairing, HEXAGON, value, None, None)


class TestSides(unittest.TestCase):
    def test_known(self):
        self.assertEqual(sides_of(web=HEXAGON, lot=(0, 1, 2)), ((SQUARE, (0, 1, 2, 3)), (SQUARE, (4, 3, 5, 1))))
        self.assertEqual(sides_of(FULL, (0,)), (((2, ((0, 1),) * 3), (0, 1, 2)), ((4, FULL[1]), (3, 4, 0, 5, 1, 2))))

    def test_sides_are_covered(self):
        for web in list(SMALL) + covered_webs(63, 60, 8, 14):
            for lot in proper_lots(web):
                if slow_tight(web, lot):
                    rest = tuple([place for place in range(web[0]) if place not in lot])
                    near, far = sides_of(web, lot)
                    self.assertEqual((near, far), (slow_laid(web, rest), slow_laid(web, lot)))
                    self.assertTrue(is_covered(near[0]) and is_covered(far[0]))
                    cut = slow_cut(web, lot)
                    for row in quick_pairings(web):
                        for side, numbers in (near, far):
                            left = tuple([at for at, number in enumerate(numbers) if number in row])
                            self.assertIs(is_pairing(side, left), True)
                            self.assertEqual(len([at for at in left if numbers[at] in cut]), 1)

    def test_not_tight(self):
        for web, lot in ((PRISM, (0, 1, 2)), (HEXAGON, (0, 1)), (HEXAGON, (0, 2, 4)), (PETERSEN, (0, 1, 2, 3, 4))):
            for call, more in ((sides_of, ()), (joined_pairing, (None, None))):
                with self.assertRaises(NotTight) as caught:
                    call(web, lot, *more)
                pairing = caught.exception.pairing
                self.assertIs(is_pairing(web, pairing), True)
                self.assertNotEqual(len(set(pairing) & set(slow_cut(web, lot))), 1)


class TestJoined(unittest.TestCase):
    def test_known(self):
        self.assertEqual(joined_pairing(web=HEXAGON, lot=(0, 1, 2), near=(0, 3), far=(1, 2)), (0, 3, 5))
        self.assertIsNone(joined_pairing(HEXAGON, (0, 1, 2), (0, 3), (0, 3)))
        self.assertEqual(joined_pairing((2, ((0, 1),)), (1,), (0,), (0,)), (0,))

    def test_all_pairs(self):
        for web in list(SMALL)[1:] + covered_webs(64, 60, 8, 12):
            for lot in proper_lots(web)[::3]:
                if slow_tight(web, lot) and len(quick_pairings(web)) < 30:
                    self.check_pairs(web, lot)

    def check_pairs(self, web, lot):
        cut = slow_cut(web, lot)
        (near, ones), (far, others) = sides_of(web, lot)
        made = []
        for one, other in product(pairings(near), pairings(far)):
            met = [[ones[at] for at in one], [others[at] for at in other]]
            joined = joined_pairing(web, lot, one, other)
            if set(met[0]) & set(cut) == set(met[1]) & set(cut):
                self.assertEqual(set(joined), set(met[0]) | set(met[1]))
                made.append(joined)
            else:
                self.assertIsNone(joined)
        self.assertEqual(tuple(sorted(made)), quick_pairings(web))

    def test_great_web(self):
        self.check_pairs(TIED_PETERSEN, (0, 10, 11))
        self.check_pairs(SPLIT_PETERSEN, (9, 10, 11))

    def test_bad_values(self):
        lot = (0, 1, 2)
        expect_bad_webs(self, BadWeb, joined_pairing, (0,), (0,), (0,))
        for value in list(ODD_VALUES) + twisted((0, 3)) + [(1, 3), (0, 1), (3, 0), (0, 1, 2, 3), (0, 3, 3)]:
            if repr(value) != "(0, 3)":
                expect(self, BadPairing, value, joined_pairing, HEXAGON, lot, value, (0, 3))
                expect(self, BadPairing, value, joined_pairing, HEXAGON, lot, value, [])
                expect(self, BadPairing, value, joined_pairing, HEXAGON, lot, (0, 3), value)
        # The pairing of the whole web is none of its side.
        expect(self, BadPairing, (0, 3, 5), joined_pairing, HEXAGON, lot, (0, 3, 5), (0, 3))
        with self.assertRaises(BadWeb):
            joined_pairing(BARE, None, None, None)


class TestCrossing(unittest.TestCase):
    def test_lots_that_cross(self):
        met = 0
        ring = (10, tuple(sorted([(a, a + 1) for a in range(9)] + [(0, 9)])))
        for web in list(SMALL) + [ring] + covered_webs(65, 60, 10, 12):
            lots = tight_lots(web)
            everything = set(range(web[0]))
            for one, other in product(lots, lots):
                one, other = set(one), set(other)
                other = other if len(one & other) % 2 else everything - other
                if one - other and other - one and one & other and everything - one - other:
                    met += 1
                    self.assertIs(is_tight(web, tuple(sorted(one & other))), True)
                    self.assertIs(is_tight(web, tuple(sorted(everything - one - other))), True)
                    for a, b in web[1]:
                        self.assertFalse(a in one - other and b in other - one)
                        self.assertFalse(b in one - other and a in other - one)
        self.assertGreater(met, 20)


if __name__ == "__main__":
    unittest.main()
