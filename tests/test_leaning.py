"""Ties that lean on others, twins and flocks [14.1]."""

import unittest
from itertools import product

from helpers import (COVERED, CUBE, CUT_PRISM, FULL, HEXAGON, LENS, ODD_VALUES, PETERSEN, PRISM, SQUARE, THREES, TWIN,
                     all_lots, covered_webs, expect, expect_bad_webs, quick_pairings, slow_odd_rests, twisted)
from oncecrossed.bricks import is_brick
from oncecrossed.errors import BadTie, BadWeb
from oncecrossed.leaning import flocks, judge_leaning, leaning_holds

MORE = (4, ((0, 1), (0, 1), (0, 2), (0, 3), (1, 2), (1, 3), (2, 3)))
PAIR = (2, ((0, 1),))
# Two places with a tie between them and with two rows of three ties from the one to the other.
ROWS = (6, ((0, 1), (0, 2), (0, 4), (1, 3), (1, 5), (2, 3), (4, 5)))
DECAGON = (10, tuple(sorted([(a, a + 1) for a in range(9)] + [(0, 9)])))
SOME = [web for web in COVERED if web[0] <= 10 and len(web[1]) <= 20] + [MORE, PAIR, ROWS, DECAGON]


def slow_less(web, other):
    return (web[0], web[1][:other] + web[1][other + 1:])


def bars(web, one, other, lot):
    """Whether a lot bars all pairings that have a tie and not another one."""
    return set(web[1][one]) <= set(lot) and slow_odd_rests(slow_less(web, other), lot) >= len(lot)


def leans(rows, one, other):
    return all([other in row for row in rows if one in row])


def slow_flocks(web):
    rows = quick_pairings(web)
    numbers = range(len(web[1]))
    return sorted({tuple([at for at in numbers if leans(rows, one, at) and leans(rows, at, one)]) for one in numbers})


class TestLeaning(unittest.TestCase):
    def test_judged(self):
        kinds = {"free": 0, "leans": 0}
        one_way = 0
        for web in SOME + covered_webs(180, 60, 10, 18):
            rows = quick_pairings(web)
            for one, other in product(range(len(web[1])), repeat=2):
                if one == other:
                    continue
                paper = judge_leaning(web, one, other)
                kinds[paper[0]] += 1
                right = leans(rows, one, other)
                one_way += right and not leans(rows, other, one)
                self.assertEqual(paper[0], "leans" if right else "free", (web, one, other))
                if right:
                    self.assertTrue(bars(web, one, other, paper[1]), (web, one, other, paper))
                else:
                    self.assertTrue(paper[1] in rows and one in paper[1] and other not in paper[1], (web, one, other))
                self.assertIs(leaning_holds(web, one, other, paper), True)
        self.assertGreater(min(kinds.values()), 300, kinds)
        self.assertGreater(one_way, 100)

    def test_known(self):
        self.assertEqual(judge_leaning(web=FULL, one=0, other=1), ("free", (0, 5)))
        self.assertEqual(judge_leaning(FULL, 0, 5)[0], "leans")
        self.assertEqual(judge_leaning(MORE, 6, 0), ("free", (1, 6)))
        self.assertEqual(judge_leaning(MORE, 0, 6)[0], "leans")
        self.assertEqual(judge_leaning(TWIN, 1, 0), ("free", (1,)))
        self.assertIs(leaning_holds(web=FULL, one=0, other=5, thing=("leans", (0, 1))), True)
        # The tie between the two places leans on the middle ties of both rows, and not the other way.
        for middle in (5, 6):
            self.assertEqual(judge_leaning(ROWS, 0, middle)[0], "leans")
            self.assertEqual(judge_leaning(ROWS, middle, 0)[0], "free")
        self.assertEqual(flocks(ROWS), ((0,), (1, 3), (2, 4), (5,), (6,)))

    def test_all_lots(self):
        met = 0
        for web in [web for web in SOME if web[0] <= 6 and len(web[1]) < 12] + covered_webs(181, 12, 6, 9):
            for one, other in product(range(min(8, len(web[1]))), repeat=2):
                for lot in all_lots(web) if one != other else ():
                    right = bars(web, one, other, lot)
                    met += right
                    self.assertIs(leaning_holds(web, one, other, ("leans", lot)), right, (web, one, other, lot))
        self.assertGreater(met, 100)

    def test_all_pairings(self):
        for web in SOME:
            rows = quick_pairings(web)[:12]
            for one, other in product(range(min(7, len(web[1]))), repeat=2):
                for row in rows if one != other else ():
                    right = one in row and other not in row
                    self.assertIs(leaning_holds(web, one, other, ("free", row)), right, (web, one, other, row))

    def test_wrong_papers(self):
        for web, one, other in ((FULL, 0, 1), (FULL, 0, 5), (LENS, 9, 10), (LENS, 0, 9)):
            for value in list(ODD_VALUES) + twisted(judge_leaning(web, one, other)):
                self.assertIs(leaning_holds(web, one, other, value), False, (web, value))
        for value in (("free", (0, 1)), ("free", (5, 0)), ("lot", (0, 1)), ("leans", (0, 2)), ("leans", (1, 0)), ("leans", ())):
            self.assertIs(leaning_holds(FULL, 0, 5, value), False, value)

    def test_errors(self):
        for call, more in ((judge_leaning, (0, 0)), (judge_leaning, (None, None)), (leaning_holds, (9, 9, None)), (flocks, ())):
            expect_bad_webs(self, BadWeb, call, *more)
        for value in [value for value in ODD_VALUES if value not in (0, 1) or isinstance(value, bool)] + [4, "0", [0]]:
            for other in (0, 1, value, None, "x"):
                expect(self, BadTie, value, judge_leaning, SQUARE, value, other)
                expect(self, BadTie, value, leaning_holds, SQUARE, value, other, ("free", (0, 3)))
            expect(self, BadTie, value, judge_leaning, SQUARE, 0, value)
            expect(self, BadTie, value, leaning_holds, SQUARE, 3, value, None)
        for number in range(4):
            expect(self, BadTie, number, judge_leaning, SQUARE, number, number)
            expect(self, BadTie, number, leaning_holds, SQUARE, number, number, ("leans", (0, 1)))
        expect(self, BadTie, 0, judge_leaning, PAIR, 0, 0)


class TestFlocks(unittest.TestCase):
    def test_against_pairings(self):
        sizes = set()
        for web in SOME + covered_webs(182, 100, 10, 16) + covered_webs(183, 10, 10, 30):
            found = flocks(web)
            sizes |= {len(flock) for flock in found}
            self.assertEqual(list(found), slow_flocks(web), web)
        self.assertLessEqual({1, 2, 3, 4, 5}, sizes)

    def test_known(self):
        self.assertEqual(flocks(web=FULL), ((0, 5), (1, 4), (2, 3)))
        self.assertEqual(flocks(PAIR), ((0,),))
        self.assertEqual(flocks(TWIN), ((0,), (1,)))
        self.assertEqual(flocks(MORE), ((0,), (1,), (2, 5), (3, 4), (6,)))
        self.assertEqual(flocks(HEXAGON), ((0, 3, 5), (1, 2, 4)))
        self.assertEqual(flocks(PETERSEN), tuple([(number,) for number in range(15)]))
        self.assertEqual(flocks((2, ((0, 1),) * 30)), tuple([(number,) for number in range(30)]))

    def test_all_or_none(self):
        for web in SOME:
            for flock in flocks(web):
                for row in quick_pairings(web):
                    self.assertIn(len(set(flock) & set(row)), (0, len(flock)))

    def test_bricks(self):
        for web in (FULL, PRISM, CUT_PRISM, PETERSEN, MORE):
            self.assertTrue(is_brick(web))
            self.assertLessEqual(max([len(flock) for flock in flocks(web)]), 2)
        for web in (THREES, CUBE):
            self.assertEqual(max([len(flock) for flock in flocks(web)]), 1)


if __name__ == "__main__":
    unittest.main()
