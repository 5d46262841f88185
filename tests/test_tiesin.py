"""Ties in pairings [2.3]."""

import unittest
from itertools import combinations

from helpers import (FULL, LINE, NOT_WEBS, ODD_VALUES, ONE, PETERSEN, SQUARE, STAR, TRIANGLE, TWIN, WEBS, all_lots,
                     big_web, random_webs, slow_odd_rests, slow_pairings, twisted)
from oncecrossed.errors import BadTie, BadWeb, NoPairing
from oncecrossed.pairings import pairings
from oncecrossed.tiesin import judge_tie, let_ties, needed_ties, tie_holds

# A doubled tie between the places 1 and 2, which lies in no pairing, and a doubled one that does.
DOUBLED = (4, ((0, 1), (0, 1), (1, 2), (1, 2), (2, 3)))
NOT_TIES = (-1, 3, 10 ** 99, True, False, None, "0", (), (0,), [0], {}, ((0, 1),))


class TestLists(unittest.TestCase):
    def test_let_and_needed(self):
        self.assertEqual((let_ties(LINE), needed_ties(LINE)), ((0, 2), (0, 2)))
        self.assertEqual((let_ties(DOUBLED), needed_ties(DOUBLED)), ((0, 1, 4), (4,)))
        self.assertEqual((let_ties(web=TWIN), needed_ties(web=TWIN)), ((0, 1), ()))
        self.assertEqual((let_ties(SQUARE), needed_ties(SQUARE)), ((0, 1, 2, 3), ()))
        self.assertEqual(needed_ties((2, ((0, 1),))), (0,))
        self.assertEqual((let_ties(PETERSEN), needed_ties(PETERSEN)), (tuple(range(15)), ()))

    def test_against_all_pairings(self):
        for web in list(WEBS[:-4]) + random_webs(40, 400, 6, 9) + random_webs(41, 60, 10, 20):
            if len(web[1]) > 30:
                continue
            rows = [set(row) for row in pairings(web)]
            self.assertEqual(let_ties(web), tuple(sorted(set().union(*rows))), web)
            if rows:
                self.assertEqual(needed_ties(web), tuple(sorted(rows[0].intersection(*rows))), web)
            else:
                self.assertRaises(NoPairing, needed_ties, web)

    def test_without_pairing(self):
        for web in (ONE, TRIANGLE, STAR, (2, ())):
            self.assertEqual(let_ties(web), ())
            self.assertRaises(NoPairing, needed_ties, web)


class TestJudged(unittest.TestCase):
    def test_judged(self):
        webs = [web for web in random_webs(42, 400, 6, 9) + random_webs(43, 60, 12, 40) + list(WEBS) if pairings(web)]
        self.assertGreater(len(webs), 100)
        for web in webs:
            let = let_ties(web)
            for number in range(len(web[1])):
                paper = judge_tie(web, number)
                self.assertIs(tie_holds(web, number, paper), True, (web, number, paper))
                self.assertEqual(paper[0], "pairing" if number in let else "lot")
                if paper[0] == "lot":
                    self.assertEqual(slow_odd_rests(web, paper[1]), len(paper[1]))
                    self.assertLessEqual(set(web[1][number]), set(paper[1]))
                else:
                    self.assertIn(number, paper[1])

    def test_known(self):
        self.assertEqual(judge_tie(number=0, web=LINE), ("pairing", (0, 2)))
        self.assertEqual(judge_tie(LINE, 1), ("lot", (1, 2)))
        self.assertEqual(judge_tie(TWIN, 1), ("pairing", (1,)))
        self.assertEqual(judge_tie(DOUBLED, 1), ("pairing", (1, 4)))
        self.assertEqual(judge_tie(DOUBLED, 3), ("lot", (1, 2)))
        self.assertEqual([judge_tie(big_web(), number)[0] for number in (0, 39)], ["lot", "pairing"])

    def test_all_papers(self):
        webs = [web for web in [TWIN, LINE, FULL, DOUBLED] + random_webs(44, 150, 6, 7) if slow_pairings(web)]
        for web in webs:
            right = slow_pairings(web)
            for number in range(len(web[1])):
                for lot in all_lots(web):
                    wanted = slow_odd_rests(web, lot) == len(lot) and set(web[1][number]) <= set(lot)
                    self.assertIs(tie_holds(web, number, ("lot", lot)), wanted, (web, number, lot))
                for row in combinations(range(len(web[1])), web[0] // 2):
                    wanted = row in right and number in row
                    self.assertIs(tie_holds(web, number, ("pairing", row)), wanted, (web, number, row))

    def test_lots_that_bar_nothing(self):
        self.assertIs(tie_holds(thing=("lot", (1, 2)), number=1, web=LINE), True)
        for lot in ((), (1,), (2,), (0, 2), (1, 3), (2, 1), (0, 1, 2), (0, 1, 2, 3)):
            self.assertIs(tie_holds(LINE, 1, ("lot", lot)), False, lot)
        for number in (0, 2):
            self.assertIs(tie_holds(LINE, number, ("lot", (1, 2))), False)

    def test_wrong_papers(self):
        for value in ODD_VALUES + tuple(twisted(("pairing", (0, 2)))):
            self.assertIs(tie_holds(LINE, 0, value), False, value)
        for value in twisted(("lot", (1, 2))):
            self.assertIs(tie_holds(LINE, 1, value), False, value)
        for value in (("pairing", (False, 2)), ("pairing", [0, 2]), ["pairing", (0, 2)], ("pairing", (2, 0)),
                      ("lot", (0, 2)), ("pairing", (0, 2), ()), ("pairing", (0, 1))):
            self.assertIs(tie_holds(LINE, 0, value), False, value)


class TestErrors(unittest.TestCase):
    def test_bad_ties(self):
        for value in NOT_TIES:
            for call, more in ((judge_tie, ()), (tie_holds, (None,))):
                with self.assertRaises(BadTie) as caught:
                    call(LINE, value, *more)
                self.assertIs(caught.exception.number, value)

    def test_no_pairing_comes_first(self):
        for web in (ONE, TRIANGLE, STAR, (2, ())):
            for value in NOT_TIES + (0,):
                self.assertRaises(NoPairing, judge_tie, web, value)
                self.assertRaises(NoPairing, tie_holds, web, value, ("lot", ()))

    def test_bad_webs_come_first(self):
        for value in NOT_WEBS:
            calls = ((let_ties, ()), (needed_ties, ()), (judge_tie, (None,)), (tie_holds, (None, None)))
            for call, more in calls:
                with self.assertRaises(BadWeb) as caught:
                    call(value, *more)
                self.assertIs(caught.exception.thing, value)


if __name__ == "__main__":
    unittest.main()
