"""Pairings [2.1], and the lots that bar them [2.2]."""

import unittest
from itertools import combinations, permutations

from helpers import (BARE, FULL, HEXAGON, LINE, NOT_WEBS, ODD_VALUES, ONE, PENTAGON, PETERSEN, PRISM, SQUARE, STAR,
                     TRIANGLE, TWIN, TWO_SQUARES, TWO_TRIANGLES, WEBS, all_lots, big_web, random_webs, slow_odd_rests,
                     slow_pairings, twisted)
from oncecrossed.errors import BadLot, BadWeb
from oncecrossed.pairings import how_many, is_pairing, judge_pairing, odd_rests, pairing_holds, pairings

FIVEFOLD = (6, tuple([tie for tie in HEXAGON[1] for _ in range(5)]))
# 12 places in two rows of six, with ties beside and across, some doubled: 30 ties and many pairings.
MANY = (12, tuple(sorted([(a, a + 6) for a in range(6)] * 2 + [(a, a + 1) for a in range(11) if a != 5]
                         + [(a, a + 7) for a in range(5)] + [(0, 5), (6, 11), (0, 11)])))


class TestPairings(unittest.TestCase):
    def test_listed(self):
        self.assertEqual(pairings(FULL), ((0, 5), (1, 4), (2, 3)))
        self.assertEqual(pairings(web=TWIN), ((0,), (1,)))
        self.assertEqual(pairings(HEXAGON), ((0, 3, 5), (1, 2, 4)))
        self.assertEqual(pairings(LINE), ((0, 2),))
        for web in (ONE, BARE, TRIANGLE, PENTAGON, STAR, TWO_TRIANGLES, (2, ())):
            self.assertEqual((pairings(web), how_many(web)), ((), 0))
        self.assertEqual(how_many(PETERSEN), 6)
        self.assertEqual(how_many(PRISM), 4)
        self.assertEqual(pairings(TWO_SQUARES), slow_pairings(TWO_SQUARES))

    def test_against_all_rows(self):
        for web in random_webs(30, 150, 6, 12) + random_webs(31, 100, 4, 12) + random_webs(32, 10, 8, 18):
            self.assertEqual(pairings(web), slow_pairings(web), web)
            self.assertEqual(how_many(web), len(slow_pairings(web)), web)

    def test_many_ties_and_pairings(self):
        self.assertEqual(how_many(FIVEFOLD), 250)
        self.assertEqual(pairings(FIVEFOLD), slow_pairings(FIVEFOLD))
        for web in (MANY, FIVEFOLD, (12, ((0, 1), (2, 3), (4, 5), (6, 7), (8, 9), (10, 11)))):
            found = pairings(web)
            self.assertEqual(list(found), sorted(set(found)))
            self.assertEqual(how_many(web=web), len(found))
            self.assertTrue(all(is_pairing(web, row) for row in found))
        self.assertEqual(len(MANY[1]), 30)
        self.assertEqual(how_many(MANY), count_slowly(12, MANY[1]))
        sixfold = (8, tuple([(a, a + 1) for a in (0, 2, 4, 6) for _ in range(6)]))
        self.assertEqual(how_many(sixfold), 6 ** 4)

    def test_is_pairing(self):
        for web in [TWIN, LINE, SQUARE, FULL, TRIANGLE, ONE] + random_webs(33, 40, 4, 6):
            right = slow_pairings(web)
            for many in range(4):
                for row in permutations(range(len(web[1])), many):
                    self.assertIs(is_pairing(web, row), row in right, (web, row))
        self.assertIs(is_pairing(thing=(5, 0), web=FULL), False)
        self.assertIs(is_pairing(FULL, (0, 0)), False)

    def test_no_pairings(self):
        for value in ODD_VALUES + tuple(twisted((0, 5))):
            self.assertIs(is_pairing(FULL, value), False, value)
        for value in ((False,), (True,), [0], (0, 1), (2,), (-1,), ((0,),), 0):
            self.assertIs(is_pairing(TWIN, value), False, value)
        self.assertIs(is_pairing(ONE, ()), False)
        self.assertIs(is_pairing(TRIANGLE, (0,)), False)


def count_slowly(places, ties):
    """How many pairings there are, by the choices for the place 0 and so on."""
    def count(left):
        if not left:
            return 1
        return sum(count(left - {a, b}) for a, b in ties if a == min(left) and b in left)
    return count(frozenset(range(places)))


class TestOddRests(unittest.TestCase):
    def test_all_lots(self):
        for web in [ONE, TWIN, STAR, FULL, PENTAGON, TWO_SQUARES] + random_webs(34, 60, 6, 8):
            for lot in all_lots(web):
                self.assertEqual(odd_rests(web, lot), slow_odd_rests(web, lot), (web, lot))
        self.assertEqual(odd_rests(lot=(0,), web=STAR), 3)
        self.assertEqual((odd_rests(BARE, ()), odd_rests(BARE, tuple(range(12))), odd_rests(ONE, (0,))), (12, 0, 0))

    def test_bad_lots(self):
        for value in ODD_VALUES + ((3, 0), (True,), [1], (4,)):
            if not (isinstance(value, tuple) and repr(value) in [repr(lot) for lot in all_lots(STAR)]):
                with self.assertRaises(BadLot) as caught:
                    odd_rests(STAR, value)
                self.assertIs(caught.exception.thing, value)


class TestJudged(unittest.TestCase):
    def test_judged(self):
        for web in list(WEBS) + random_webs(35, 200, 8, 10) + random_webs(36, 100, 12, 40):
            paper = judge_pairing(web)
            self.assertIs(pairing_holds(web, paper), True, (web, paper))
            self.assertEqual(paper[0], "pairing" if how_many(web) else "lot", web)
            if paper[0] == "lot":
                self.assertGreater(slow_odd_rests(web, paper[1]), len(paper[1]))
            else:
                met = sorted([place for number in paper[1] for place in web[1][number]])
                self.assertEqual(met, list(range(web[0])))

    def test_known(self):
        self.assertEqual(judge_pairing(STAR), ("lot", (0,)))
        self.assertEqual(judge_pairing(web=(2, ((0, 1),))), ("pairing", (0,)))
        self.assertEqual(judge_pairing(ONE), ("lot", ()))
        self.assertEqual(judge_pairing(TRIANGLE), ("lot", ()))

    def test_all_papers(self):
        for web in [ONE, (2, ()), TWIN, STAR, LINE, FULL] + random_webs(37, 60, 6, 6):
            right = slow_pairings(web)
            for lot in all_lots(web):
                wanted = slow_odd_rests(web, lot) > len(lot)
                self.assertIs(pairing_holds(web, ("lot", lot)), wanted, (web, lot))
                self.assertFalse(wanted and right)
            for row in combinations(range(len(web[1])), web[0] // 2):
                self.assertIs(pairing_holds(web, ("pairing", row)), row in right, (web, row))

    def test_wrong_papers(self):
        self.assertIs(pairing_holds(thing=("lot", (0,)), web=STAR), True)
        for value in ODD_VALUES:
            self.assertIs(pairing_holds(FULL, value), False, value)
        for value in twisted(("lot", (0,))):
            self.assertIs(pairing_holds(STAR, value), False, value)
        for value in twisted(("pairing", (0, 5))):
            self.assertIs(pairing_holds(FULL, value), False, value)
        for value in (("pairing", (5, 0)), ("pairing", (False, 5)), ["pairing", (0, 5)], ("pairing", [0, 5]),
                      ("lot", (0, 5)), ("Pairing", (0, 5)), ("pairing", (0, 5), ())):
            self.assertIs(pairing_holds(FULL, value), False, value)

    def test_bad_webs(self):
        for value in NOT_WEBS:
            for call in (pairings, how_many, judge_pairing):
                with self.assertRaises(BadWeb) as caught:
                    call(value)
                self.assertIs(caught.exception.thing, value)
            for call in (is_pairing, odd_rests, pairing_holds):
                with self.assertRaises(BadWeb) as caught:
                    call(value, [None])
                self.assertIs(caught.exception.thing, value)

    def test_largest_webs(self):
        self.assertEqual(judge_pairing(big_web())[0], "pairing")
        star = (12, tuple([(0, place) for place in range(1, 12)]))
        self.assertEqual(judge_pairing(star), ("lot", (0,)))


if __name__ == "__main__":
    unittest.main()
