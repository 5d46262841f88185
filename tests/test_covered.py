"""Covered webs [3.1], and what is left of others [3.2]."""

import unittest
from itertools import product

from helpers import (BARE, FULL, HEXAGON, LINE, NOT_WEBS, ODD_VALUES, ONE, PENTAGON, PETERSEN, PRISM, SQUARE, STAR,
                     TRIANGLE, TWIN, TWO_SQUARES, TWO_TRIANGLES, WEBS, all_lots, big_web, random_webs, slow_odd_rests,
                     slow_pairings, slow_parts, twisted)
from oncecrossed.covered import covered_holds, covered_parts, is_covered, judge_covered
from oncecrossed.errors import BadWeb, NoPairing
from oncecrossed.pairings import how_many, pairings
from oncecrossed.webs import is_web, within

# Two squares with a tie between them that lies in no pairing.
TIED_SQUARES = (8, ((0, 1), (0, 3), (0, 4), (1, 2), (2, 3), (4, 5), (4, 7), (5, 6), (6, 7)))
BETWEEN_TRIANGLES = (6, ((0, 1), (0, 2), (1, 2), (2, 3), (3, 4), (3, 5), (4, 5)))
SMALL = (ONE, (2, ()), (2, ((0, 1),)), TWIN, TRIANGLE, LINE, STAR, SQUARE, FULL, BETWEEN_TRIANGLES,
         (4, ((0, 1), (2, 3))))


def slow_covered(web):
    """Whether a web is covered, by the definition."""
    met = {number for row in pairings(web) for number in row}
    return web[0] > 1 and len(slow_parts(web)) == 1 and len(met) == len(web[1])


def slow_holds(web, paper):
    """Whether a certificate of the right form is right."""
    right = slow_pairings(web)
    split = web[0] == 1 or len(slow_parts(web)) > 1
    if paper[0] == "covered":
        rows = paper[1]
        fit = len(rows) == len(web[1]) and all(row in right and at in row for at, row in enumerate(rows))
        return fit and not split
    if paper[0] == "parts":
        return split
    lot = paper[-1]
    if paper[0] == "none":
        return slow_odd_rests(web, lot) > len(lot)
    return bool(right) and slow_odd_rests(web, lot) == len(lot) and set(web[1][paper[1]]) <= set(lot)


class TestCovered(unittest.TestCase):
    def test_known(self):
        for web in ((2, ((0, 1),)), TWIN, SQUARE, FULL, HEXAGON, PRISM, PETERSEN):
            self.assertIs(is_covered(web), True, web)
        for web in (ONE, BARE, (2, ()), TRIANGLE, PENTAGON, LINE, STAR, TWO_SQUARES, TWO_TRIANGLES, TIED_SQUARES,
                    BETWEEN_TRIANGLES, big_web(), (4, ((0, 1), (2, 3)))):
            self.assertIs(is_covered(thing=web), False, web)

    def test_any_value(self):
        for value in NOT_WEBS + ODD_VALUES:
            self.assertIs(is_covered(value), False, value)
        self.assertIs(is_covered((12, ((0, 1),) * 900)), False)
        self.assertIs(is_covered((2, ((0, 1),) * 900)), True)

    def test_against_the_definition(self):
        for web in list(WEBS) + random_webs(50, 400, 4, 9) + random_webs(51, 300, 6, 12):
            self.assertIs(is_covered(web), slow_covered(web), web)


class TestJudged(unittest.TestCase):
    def test_judged(self):
        kinds = {}
        for web in list(WEBS) + list(SMALL) + random_webs(52, 500, 6, 12) + random_webs(53, 60, 12, 40):
            paper = judge_covered(web)
            kinds[paper[0]] = web
            self.assertIs(covered_holds(web, paper), True, (web, paper))
            self.assertEqual(paper[0] == "covered", slow_covered(web), (web, paper))
            if web[0] <= 6:
                self.assertTrue(slow_holds(web, paper), (web, paper))
        self.assertEqual(sorted(kinds), ["covered", "none", "parts", "tie"])

    def test_known(self):
        self.assertEqual(judge_covered(web=SQUARE), ("covered", ((0, 3), (1, 2), (1, 2), (0, 3))))
        self.assertEqual(judge_covered(ONE), ("parts",))
        self.assertEqual(judge_covered(BARE), ("parts",))
        self.assertEqual(judge_covered(STAR), ("none", (0,)))
        self.assertEqual(judge_covered(LINE), ("tie", 1, (1, 2)))
        self.assertEqual(judge_covered(TWIN), ("covered", ((0,), (1,))))

    def test_largest(self):
        ladder = (12, tuple(sorted([(a, a + 6) for a in range(6)] * 2 + [(a, a + 1) for a in range(11) if a != 5] * 2)))
        self.assertEqual(len(ladder[1]), 32)
        rows = judge_covered(ladder)[1]
        self.assertEqual(len(rows), 32)
        self.assertTrue(all(number in row for number, row in enumerate(rows)))
        self.assertIs(covered_holds(ladder, ("covered", rows)), True)


class TestHolds(unittest.TestCase):
    def test_all_lots(self):
        for web in list(SMALL) + random_webs(54, 60, 6, 7):
            self.assertIs(covered_holds(web, ("parts",)), slow_holds(web, ("parts",)), web)
            for lot in all_lots(web):
                self.assertIs(covered_holds(web, ("none", lot)), slow_holds(web, ("none", lot)), (web, lot))
                for number in range(len(web[1])):
                    paper = ("tie", number, lot)
                    self.assertIs(covered_holds(web, paper), slow_holds(web, paper), (web, paper))

    def test_all_rows_of_pairings(self):
        for web in (TWIN, SQUARE, (4, ((0, 1), (0, 1), (0, 3), (1, 2), (2, 3))), (4, ((0, 1), (2, 3))), LINE):
            for rows in product(slow_pairings(web), repeat=len(web[1])):
                paper = ("covered", rows)
                self.assertIs(covered_holds(web, paper), slow_holds(web, paper), (web, paper))
        self.assertIs(covered_holds(ONE, ("covered", ())), False)
        self.assertIs(covered_holds((2, ()), ("covered", ())), False)
        self.assertIs(covered_holds((4, ((0, 1), (2, 3))), ("covered", ((0, 1), (0, 1)))), False)

    def test_wrong_papers(self):
        for value in ODD_VALUES:
            self.assertIs(covered_holds(SQUARE, value), False, value)
        for web, paper in ((SQUARE, judge_covered(SQUARE)), (STAR, ("none", (0,))), (LINE, ("tie", 1, (1, 2))),
                           (TWIN, ("covered", ((0,), (1,))))):
            self.assertIs(covered_holds(web, paper), True)
            for value in twisted(paper):
                self.assertIs(covered_holds(web, value), False, (web, value))
        for value in (["parts"], "parts", ("parts", ()), ("Parts",), (("parts",),), ("none", ()), ("tie", 0, ())):
            self.assertIs(covered_holds(TWO_SQUARES, value), False, value)
        self.assertIs(covered_holds(thing=("parts",), web=TWO_SQUARES), True)

    def test_parts_and_others_beside(self):
        self.assertIs(covered_holds((2, ()), ("none", ())), True)
        two = (6, ((0, 1), (2, 3), (3, 4), (4, 5)))
        self.assertIs(covered_holds(two, ("tie", 2, (3, 4))), True)
        self.assertIs(covered_holds(two, ("parts",)), True)
        self.assertIs(covered_holds(STAR, ("tie", 0, (0, 1))), False)

    def test_numbers_that_are_none(self):
        for number in (True, -1, 3, "1", None, (1,), 10 ** 99):
            self.assertIs(covered_holds(LINE, ("tie", number, (1, 2))), False, number)


class TestCoveredParts(unittest.TestCase):
    def test_known(self):
        pair = (2, ((0, 1),))
        self.assertEqual(covered_parts(web=LINE), (((0, 1), pair), ((2, 3), pair)))
        self.assertEqual(covered_parts(SQUARE), (((0, 1, 2, 3), SQUARE),))
        self.assertEqual(covered_parts(TIED_SQUARES), (((0, 1, 2, 3), SQUARE), ((4, 5, 6, 7), SQUARE)))
        self.assertEqual(covered_parts(TWO_SQUARES), (((0, 2, 4, 6), SQUARE), ((1, 3, 5, 7), SQUARE)))
        self.assertEqual(covered_parts(BETWEEN_TRIANGLES), (((0, 1), pair), ((2, 3), pair), ((4, 5), pair)))
        inside = (4, ((0, 1), (0, 1), (0, 2), (2, 3)))
        self.assertEqual(covered_parts(inside), (((0, 1), TWIN), ((2, 3), pair)))

    def test_what_they_are(self):
        webs = [web for web in list(WEBS) + random_webs(55, 500, 8, 12) if pairings(web)]
        self.assertGreater(len(webs), 60)
        for web in webs:
            found = covered_parts(web)
            let = {number for row in pairings(web) for number in row}
            left = (web[0], tuple([web[1][number] for number in sorted(let)]))
            self.assertEqual(tuple([lot for lot, _ in found]), slow_parts(left))
            many = 1
            for lot, part in found:
                self.assertTrue(is_web(part) and slow_covered(part))
                self.assertEqual(part, within(left, lot))
                many *= how_many(part)
            self.assertEqual(many, how_many(web))

    def test_no_pairing(self):
        for web in (ONE, TRIANGLE, STAR, BARE):
            self.assertRaises(NoPairing, covered_parts, web)

    def test_bad_webs(self):
        for value in NOT_WEBS:
            for call, more in ((judge_covered, ()), (covered_parts, ()), (covered_holds, (None,))):
                with self.assertRaises(BadWeb) as caught:
                    call(value, *more)
                self.assertIs(caught.exception.thing, value)


if __name__ == "__main__":
    unittest.main()
