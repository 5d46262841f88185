"""Barriers [5.1], and the parting into greatest ones [5.2]."""

import unittest
from itertools import combinations

from helpers import (BIG_RING, COVERED, FULL, HEXAGON, LADDER, LENS, ODD_VALUES, PETERSEN, PRISM, SPLIT_PETERSEN, SQUARE,
                     THREES, TIED_PETERSEN, TWIN, all_lots, covered_webs, expect, expect_bad_webs, quick_pairings,
                     slow_odd_rests, slow_parts, slow_tight, twisted)
from oncecrossed.barriers import akin_holds, barriers, classes, is_barrier, judge_akin
from oncecrossed.errors import BadPlace, BadWeb

SMALL = tuple([web for web in COVERED if web[0] <= 8])
SIX_AND_SIX = (12, tuple([(a, b) for a in range(6) for b in range(6, 12) if (b - a) % 6 < 5]))


def rows_beside(web, lot):
    """All ascending tuples of ties that pair the places of the rest of a lot."""
    rest = [place for place in range(web[0]) if place not in lot]
    found = []
    for row in combinations(range(len(web[1])), len(rest) // 2):
        if sorted([place for number in row for place in web[1][number]]) == rest:
            found.append(row)
    return found


def slow_barriers(web):
    """All lots with as many odd rests as places, but ()."""
    return tuple(sorted([lot for lot in all_lots(web)[1:] if slow_odd_rests(web, lot) == len(lot)]))


def slow_akin(web, one, other):
    """Whether two places are one, or the web without both has no pairing."""
    tied = (web[0], web[1] + ((min(one, other), max(one, other)),)) if one != other else web
    # A pairing beside both is one of the web with a tie more between them, that has this tie.
    return one == other or not [row for row in quick_pairings(tied) if len(web[1]) in row]


class TestBarriers(unittest.TestCase):
    def test_all_lots(self):
        for web in list(SMALL) + [PETERSEN] + covered_webs(70, 80, 8, 14):
            found = slow_barriers(web)
            self.assertEqual(barriers(web=web), found, web)
            for lot in all_lots(web):
                self.assertIs(is_barrier(web, lot), lot in found, (web, lot))

    def test_known(self):
        self.assertEqual(barriers(SQUARE), ((0,), (0, 2), (1,), (1, 3), (2,), (3,)))
        self.assertEqual(barriers(TWIN), ((0,), (1,)))
        self.assertEqual(barriers(PETERSEN), tuple([(place,) for place in range(10)]))
        self.assertIs(is_barrier(web=SPLIT_PETERSEN, thing=(9, 10)), True)
        self.assertIs(is_barrier(SPLIT_PETERSEN, (9, 11)), False)
        self.assertIs(is_barrier(SIX_AND_SIX, (0, 1, 2, 3, 4, 5)), True)
        self.assertIs(is_barrier(SIX_AND_SIX, (0, 1, 2, 3, 4, 6)), False)

    def test_what_barriers_tell(self):
        for web in list(SMALL) + covered_webs(71, 40, 10, 16):
            for lot in barriers(web):
                bared = (web[0], tuple([ends for ends in web[1] if not set(ends) & set(lot)]))
                parts = [part for part in slow_parts(bared) if not set(part) & set(lot)]
                self.assertEqual(len(parts), len(lot))
                self.assertFalse([ends for ends in web[1] if set(ends) <= set(lot)])
                for part in parts:
                    self.assertEqual(len(part) % 2, 1)
                    self.assertTrue(slow_tight(web, part))

    def test_any_value(self):
        for value in ODD_VALUES + ((0, 2, 4), (2, 0), (0, 0), [0, 2], (True, 3), (0, 2, 99)):
            self.assertIs(is_barrier(SQUARE, value), repr(value) == "(0,)", value)
        self.assertIs(is_barrier(SQUARE, (0, 2)), True)

    def test_bad_webs(self):
        expect_bad_webs(self, BadWeb, is_barrier, (0,))
        expect_bad_webs(self, BadWeb, barriers)
        expect_bad_webs(self, BadWeb, classes)


class TestClasses(unittest.TestCase):
    def test_known(self):
        self.assertEqual(classes(web=SQUARE), ((0, 2), (1, 3)))
        self.assertEqual(classes(FULL), ((0,), (1,), (2,), (3,)))
        self.assertEqual(classes(THREES), ((0, 1, 2), (3, 4, 5)))
        # The places 10 and 11 have two ties each: their neighbours are akin.
        self.assertEqual(classes(SPLIT_PETERSEN)[-3:], ((7, 11), (8,), (9, 10)))
        self.assertEqual(len(classes(SPLIT_PETERSEN)), 10)
        self.assertEqual(len(classes(TIED_PETERSEN)), 12)

    def test_greatest_barriers(self):
        for web in list(COVERED) + [SIX_AND_SIX] + covered_webs(72, 120, 12, 20):
            found = classes(web)
            self.assertEqual(list(found), sorted(found))
            self.assertEqual(sorted([place for lot in found for place in lot]), list(range(web[0])))
            for lot in found:
                self.assertEqual(slow_odd_rests(web, lot), len(lot))
                for one in lot:
                    akin = [other for other in range(web[0]) if slow_akin(web, one, other)] if web[0] <= 8 else lot
                    self.assertEqual(tuple(akin), lot, web)

    def test_each_barrier_lies_within_one(self):
        for web in list(SMALL) + [PETERSEN, SPLIT_PETERSEN, LADDER] + covered_webs(73, 40, 10, 16):
            found = classes(web)
            for lot in barriers(web):
                self.assertEqual(len([group for group in found if set(lot) <= set(group)]), 1)


class TestAkin(unittest.TestCase):
    def test_judged(self):
        for web in list(COVERED) + covered_webs(74, 60, 8, 14):
            for one in range(web[0]):
                for other in set(range(web[0])) - {one}:
                    paper = judge_akin(web, one, other)
                    self.assertIs(akin_holds(web, one, other, paper), True, (web, paper))
                    if paper[0] == "akin":
                        self.assertEqual(slow_odd_rests(web, paper[1]), len(paper[1]))
                        self.assertLessEqual({one, other}, set(paper[1]))
                    else:
                        met = [place for number in paper[1] for place in web[1][number]]
                        self.assertEqual(sorted(met + [one, other]), list(range(web[0])))
                        self.assertEqual(list(paper[1]), sorted(paper[1]))

    def test_just_one_kind(self):
        for web in (SQUARE, FULL, HEXAGON, PRISM, LENS, TWIN, THREES) + tuple(covered_webs(75, 25, 6, 9)):
            for one, other in combinations(range(web[0]), 2):
                found = {"apart": rows_beside(web, (one, other)),
                         "akin": [lot for lot in slow_barriers(web) if one in lot and other in lot]}
                self.assertEqual(bool(found["apart"]), not found["akin"])
                self.assertEqual(judge_akin(web, one, other)[0], "apart" if found["apart"] else "akin")
                for lot in all_lots(web):
                    self.assertIs(akin_holds(web, one, other, ("akin", lot)), lot in found["akin"])
                for row in found["apart"] + rows_beside(web, ()) + rows_beside(web, (0, 1)) + [()]:
                    self.assertIs(akin_holds(web, one, other, ("apart", row)), row in found["apart"], (web, row))
                    self.assertIs(akin_holds(web, other, one, ("apart", row)), row in found["apart"])

    def test_known(self):
        self.assertEqual(judge_akin(web=SQUARE, one=0, other=2), ("akin", (0, 2)))
        self.assertEqual(judge_akin(FULL, 0, 3), ("apart", (3,)))
        self.assertEqual(judge_akin(TWIN, 1, 0), ("apart", ()))
        self.assertIs(akin_holds(web=SQUARE, one=1, other=3, thing=("akin", (1, 3))), True)
        self.assertIs(akin_holds(THREES, 0, 1, ("akin", (0, 1))), False)
        self.assertIs(akin_holds(THREES, 0, 1, ("akin", (0, 1, 2))), True)
        self.assertEqual(judge_akin(SPLIT_PETERSEN, 9, 10), ("akin", (9, 10)))
        self.assertEqual(judge_akin(BIG_RING, 0, 6)[0], "apart")

    def test_wrong_papers(self):
        for value in ODD_VALUES + (("akin", (0, 2, 4)), ("apart", (3,)), ("apart", ()), ("akin",), ("akin", (0,)), ("akin", ())):
            self.assertIs(akin_holds(SQUARE, 0, 2, value), False, value)
        for web, one, other, paper in ((SQUARE, 0, 2, ("akin", (0, 2))), (FULL, 0, 3, ("apart", (3,))),
                                       (PRISM, 0, 1, judge_akin(PRISM, 0, 1)), (THREES, 3, 5, ("akin", (3, 4, 5)))):
            self.assertIs(akin_holds(web, one, other, paper), True, paper)
            for value in twisted(paper):
                self.assertIs(akin_holds(web, one, other, value), False, (web, value))

    def test_errors(self):
        for call, more in ((judge_akin, ()), (akin_holds, (None,))):
            expect_bad_webs(self, BadWeb, call, 0, 1, *more)
            expect_bad_webs(self, BadWeb, call, None, None, *more)
            for value in (True, False, -1, 4, 10 ** 99, None, "0", (0,), [], {}, ()):
                expect(self, BadPlace, value, call, SQUARE, value, 1, *more)
                expect(self, BadPlace, value, call, SQUARE, value, "x", *more)
                expect(self, BadPlace, value, call, SQUARE, 1, value, *more)
            for place in range(4):
                expect(self, BadPlace, place, call, SQUARE, place, place, *more)


if __name__ == "__main__":
    unittest.main()
