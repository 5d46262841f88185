"""Spare ties [14.2], spare pairs [14.3], where spare ties are [14.4], keeping ties [14.5], lean webs [14.6]."""

import random
import unittest
from itertools import combinations, product

from helpers import (COVERED, CUBE, CUT_PRISM, FULL, HEXAGON, LENS, NOT_WEBS, ODD_VALUES, PETERSEN, PRISM, SQUARE, THREES,
                     TWIN, WEBS, WHEEL, all_lots, covered_webs, expect, expect_bad_webs, quick_pairings, slow_led,
                     slow_odd_rests, slow_parts, twisted)
from oncecrossed.bricks import is_brace, is_brick
from oncecrossed.errors import BadTie, BadWeb
from oncecrossed.leaning import flocks, judge_leaning
from oncecrossed.spare import (is_thinning, judge_lean, judge_spare, keeping_ties, lean_holds, spare_holds, spare_pairs,
                               spare_ties, thinning, web_less)
from oncecrossed.takings import piece_numbers
from oncecrossed.webs import judge_sides

MORE = (4, ((0, 1), (0, 1), (0, 2), (0, 3), (1, 2), (1, 3), (2, 3)))
PAIR = (2, ((0, 1),))
# Here the tie 5 becomes spare only behind greater ones; without its first tie, the next web, a brick, has two bricks.
LATE = (8, ((0, 1), (0, 2), (0, 4), (0, 7), (1, 2), (1, 7), (2, 5), (2, 6), (3, 4), (3, 5), (3, 6), (4, 5), (4, 6), (5, 7)))
LOOSE = (6, ((0, 1), (0, 2), (0, 3), (0, 4), (1, 2), (1, 3), (1, 5), (2, 4), (2, 5), (3, 4), (3, 5)))
SOME = [web for web in COVERED if web[0] <= 8 and len(web[1]) <= 20] + [MORE, PAIR, LATE, LOOSE]


def slow_less(web, numbers):
    return (web[0], tuple([ends for at, ends in enumerate(web[1]) if at not in numbers]))


def is_slow_covered(web):
    let = {number for row in quick_pairings(web) for number in row}
    return web[0] > 1 and len(slow_parts(web)) == 1 and len(let) == len(web[1])


def slow_spare(web):
    return [number for number in range(len(web[1])) if is_slow_covered(slow_less(web, (number,)))]


def is_slow_thinning(web, numbers):
    """Whether an ascending or other tuple of unlike numbers is a thinning."""
    for at in range(len(numbers)):
        if not is_slow_covered(slow_less(web, numbers[:at + 1])):
            return False
    return slow_spare(slow_less(web, numbers)) == []


def bars(web, other, number, lot):
    """Whether a lot bars all pairings that have the other tie and not the one."""
    return set(web[1][other]) <= set(lot) and slow_odd_rests(slow_less(web, (number,)), lot) >= len(lot)


def slow_holds(web, number, paper):
    """Whether a certificate of the right form is right."""
    rows = quick_pairings(web)
    others = [other for other in range(len(web[1])) if other != number]
    if paper[0] == "alone":
        return not others
    if paper[0] == "held":
        return paper[1] in others and bars(web, paper[1], number, paper[2])
    fit = [row in rows and other in row and number not in row for other, row in zip(others, paper[1])]
    return all(fit) and len(paper[1]) == len(others) > 0


class TestWebLess(unittest.TestCase):
    def test_less(self):
        for web in [web for web in WEBS if len(web[1]) <= 12]:
            for many in range(min(3, len(web[1])) + 1):
                for numbers in combinations(range(len(web[1])), many):
                    self.assertEqual(web_less(web, numbers), slow_less(web, numbers))
                    self.assertEqual(web_less(web=web, numbers=numbers[::-1]), slow_less(web, numbers))
        self.assertEqual(web_less(PAIR, (0,)), (2, ()))

    def test_errors(self):
        for value in NOT_WEBS:
            expect(self, BadWeb, value, web_less, value, ())
            expect(self, BadWeb, value, web_less, value, None)
        for value in [value for value in ODD_VALUES if not isinstance(value, tuple)]:
            expect(self, BadTie, value, web_less, SQUARE, value)
        for value in (4, -1, True, False, None, "0", (0,), [1], 10 ** 99):
            for numbers in ((value,), (0, value), (0, 3, value), (value, 0), (value, value), (2, value, 9)):
                expect(self, BadTie, value, web_less, SQUARE, numbers)
        expect(self, BadTie, 2, web_less, SQUARE, (0, 2, 1, 2, 9))
        expect(self, BadTie, 9, web_less, SQUARE, (0, 2, 9, 2))


class TestSpare(unittest.TestCase):
    def test_judged(self):
        kinds = {"spare": 0, "held": 0, "alone": 0}
        for web in SOME + [PETERSEN] + covered_webs(200, 60, 10, 18) + covered_webs(201, 6, 10, 30):
            right = slow_spare(web)
            self.assertEqual(list(spare_ties(web)), right, web)
            for number in range(len(web[1])):
                paper = judge_spare(web, number)
                kinds[paper[0]] += 1
                self.assertEqual(paper[0] == "spare", number in right)
                self.assertTrue(slow_holds(web, number, paper), (web, number, paper))
                self.assertIs(spare_holds(web, number, paper), True)
        self.assertGreater(min(kinds["spare"], kinds["held"]), 100, kinds)
        self.assertGreater(kinds["alone"], 1)

    def test_known(self):
        self.assertEqual(judge_spare(web=TWIN, number=0), ("spare", ((1,),)))
        self.assertEqual(judge_spare(PAIR, 0), ("alone",))
        self.assertEqual(judge_spare(FULL, 0)[:2], ("held", 5))
        self.assertIs(spare_holds(web=FULL, number=0, thing=("held", 5, (2, 3))), True)
        self.assertEqual(spare_ties(web=MORE), (0, 1))
        self.assertEqual(spare_ties((2, ((0, 1),) * 30)), tuple(range(30)))
        for web in (FULL, SQUARE, HEXAGON, PRISM, PAIR):
            self.assertEqual(spare_ties(web), ())

    def test_doubled_ties(self):
        for web in [web for web in SOME if len(web[1]) <= 14]:
            for number, ends in enumerate(web[1]):
                double = (web[0], tuple(sorted(web[1] + (ends,))))
                self.assertIn(double[1].index(ends), spare_ties(double))
                self.assertIn(double[1].index(ends) + 1, spare_ties(double))

    def test_none_leans(self):
        for web in [web for web in SOME if 1 < len(web[1]) <= 12]:
            numbers = range(len(web[1]))
            held = [one for one in numbers if any([judge_leaning(web, other, one)[0] == "leans" for other in numbers if other != one])]
            self.assertEqual([number for number in numbers if number not in held], list(spare_ties(web)))

    def test_all_lots(self):
        met = 0
        for web in [web for web in SOME if web[0] <= 6 and len(web[1]) <= 11]:
            for number, other in product(range(min(7, len(web[1]))), range(len(web[1]))):
                for lot in all_lots(web):
                    right = number != other and bars(web, other, number, lot)
                    met += right
                    self.assertIs(spare_holds(web, number, ("held", other, lot)), right, (web, number, other, lot))
        self.assertGreater(met, 50)

    def test_wrong_papers(self):
        for web, number in ((FULL, 0), (MORE, 0), (MORE, 3), (PAIR, 0), (TWIN, 1), (WHEEL, 2)):
            good = judge_spare(web, number)
            self.assertIs(spare_holds(web, number, good), True)
            for value in list(ODD_VALUES) + twisted(good):
                self.assertIs(spare_holds(web, number, value), False, (web, number, value))
        paper = judge_spare(MORE, 0)[1]
        for value in (("spare", paper[1:]), ("spare", paper[:1] * 6), ("spare", paper + paper[:1]), ("lean", paper), ("alone",),
                      ("spare", ((0, 6),) + paper[1:]), ("spare", paper[:5] + ((0, 6),)), ("spare", paper[:1] + paper[2:3] + paper[1:2] + paper[3:])):
            self.assertIs(spare_holds(MORE, 0, value), False, value)
        self.assertIs(spare_holds(PAIR, 0, ("spare", ())), False)
        self.assertIs(spare_holds(TWIN, 0, ("alone",)), False)

    def test_errors(self):
        for call, more in ((judge_spare, (0,)), (judge_spare, (None,)), (spare_holds, (0, None)), (spare_ties, ()),
                           (keeping_ties, ()), (spare_pairs, ()), (judge_lean, ()), (lean_holds, (None,)), (thinning, ()),
                           (is_thinning, ((),))):
            expect_bad_webs(self, BadWeb, call, *more)
        for value in [value for value in ODD_VALUES if value not in (0, 1) or isinstance(value, bool)] + [4, "0", [0]]:
            expect(self, BadTie, value, judge_spare, SQUARE, value)
            expect(self, BadTie, value, spare_holds, SQUARE, value, ("alone",))


class TestPairs(unittest.TestCase):
    def test_against_the_definition(self):
        met = 0
        for web in SOME + [PETERSEN] + covered_webs(202, 60, 8, 14):
            found = spare_pairs(web)
            met += len(found)
            flocks_of_two = [flock for flock in flocks(web) if len(flock) == 2]
            self.assertEqual(list(found), [flock for flock in flocks_of_two if is_slow_covered(slow_less(web, flock))])
        self.assertGreater(met, 10)
        self.assertEqual(spare_pairs(web=FULL), ((0, 5), (1, 4), (2, 3)))
        for web in (SQUARE, PETERSEN, CUBE, PAIR, TWIN):
            self.assertEqual(spare_pairs(web), ())

    def test_bricks(self):
        bricks = [web for web in SOME + [PETERSEN] + covered_webs(203, 150, 8, 14) if is_brick(web)]
        pairs = 0
        for web in bricks:
            for flock in flocks(web):
                self.assertLessEqual(len(flock), 2)
                if len(flock) == 2:
                    pairs += 1
                    self.assertEqual(judge_sides(slow_less(web, flock))[0], "sides")
        self.assertGreater(pairs, 10)


def some_names(web, chance):
    return slow_led(web, chance.sample(range(web[0]), web[0]))


class TestWhere(unittest.TestCase):
    def test_pieces(self):
        chance = random.Random(204)
        met = {"brick": 0, "brace": 0}
        bare = [some_names(web, chance) for web in (FULL, PRISM) for _ in range(3)]
        sides = [(a, b) for a in range(4) for b in range(4, 8)]
        dense = [(8, tuple(sorted(chance.sample(sides, many)))) for many in (12, 13, 14, 15, 16) * 6]
        for web in SOME + [PETERSEN] + covered_webs(205, 200, 8, 16) + [web for web in dense if is_slow_covered(web)]:
            if is_brace(web) and web[0] >= 6:
                met["brace"] += 1
                self.assertEqual(len(spare_ties(web)), len(web[1]))
            elif is_brick(web) and web not in (FULL, PRISM) and not (web[0] == 4 and len(web[1]) == 6):
                met["brick"] += 1
                self.assertTrue(spare_ties(web), web)
                self.assertTrue(keeping_ties(web) or web == PETERSEN, web)
        for web in bare:
            self.assertEqual(spare_ties(web), ())
            self.assertEqual(keeping_ties(web), ())
            self.assertEqual(len(spare_pairs(web)), 3)
        self.assertGreater(min(met.values()), 5, met)


class TestKeeping(unittest.TestCase):
    def test_against_the_definition(self):
        more = 0
        for web in SOME + covered_webs(206, 60, 8, 18):
            bricks = piece_numbers(web)[0]
            left = [(number, piece_numbers(slow_less(web, (number,)))[0]) for number in slow_spare(web)]
            self.assertTrue(all([many >= bricks for _, many in left]))
            more += len([many for _, many in left if many > bricks])
            self.assertEqual(list(keeping_ties(web)), [number for number, many in left if many == bricks], web)
            if judge_sides(web)[0] == "sides":
                self.assertEqual(keeping_ties(web), spare_ties(web))
        self.assertGreater(more, 0)

    def test_known(self):
        self.assertEqual(keeping_ties(web=MORE), (0, 1))
        self.assertEqual(len(spare_ties(PETERSEN)), 15)
        self.assertEqual(keeping_ties(PETERSEN), ())
        for number in range(15):
            self.assertEqual(piece_numbers(slow_less(PETERSEN, (number,)))[:2], (2, 0))
        self.assertIn(0, spare_ties(LOOSE))
        self.assertNotIn(0, keeping_ties(LOOSE))
        chance = random.Random(207)
        for _ in range(3):
            self.assertEqual(keeping_ties(some_names(PETERSEN, chance)), ())
        # A doubled tie of the Petersen web is keeping, and no other one is.
        double = (10, tuple(sorted(PETERSEN[1] + ((3, 4),))))
        self.assertEqual(keeping_ties(double), (double[1].index((3, 4)), double[1].index((3, 4)) + 1))


class TestLean(unittest.TestCase):
    def test_judged(self):
        kinds = {"lean": 0, "spare": 0}
        for web in SOME + [PETERSEN] + covered_webs(208, 80, 10, 15):
            paper = judge_lean(web)
            kinds[paper[0]] += 1
            spare = slow_spare(web)
            self.assertEqual(paper[0], "spare" if spare else "lean")
            if spare:
                self.assertIn(paper[1], spare)
            else:
                self.assertEqual(len(paper[1]), len(web[1]))
                for number, reason in enumerate(paper[1]):
                    self.assertIn(reason[0], ("held", "alone"))
                    self.assertTrue(slow_holds(web, number, reason))
            self.assertIs(lean_holds(web, paper), True)
            for number in range(len(web[1])):
                self.assertIs(lean_holds(web, ("spare", number)), number in spare)
        self.assertGreater(min(kinds.values()), 15, kinds)

    def test_known(self):
        self.assertEqual(judge_lean(web=PAIR), ("lean", (("alone",),)))
        self.assertEqual(judge_lean(TWIN)[0], "spare")
        self.assertEqual(judge_lean(FULL)[0], "lean")
        self.assertIs(lean_holds(web=PAIR, thing=("lean", (("alone",),))), True)

    def test_wrong_papers(self):
        for web in (FULL, MORE, PAIR, SQUARE):
            good = judge_lean(web)
            for value in list(ODD_VALUES) + twisted(good):
                right = web == MORE and repr(value) == "('spare', 1)"
                self.assertIs(lean_holds(web, value), right, (web, value))
        reasons = judge_lean(SQUARE)[1]
        for value in (reasons[:3], reasons + reasons[:1], reasons[::-1], (("alone",),) * 4, reasons[1:2] + reasons[:1] + reasons[2:],
                      tuple([judge_spare(MORE, number) for number in range(4)]), list(reasons)):
            self.assertIs(lean_holds(SQUARE, ("lean", value)), False, value)
        # A reason of the kind "spare" is none.
        spare = tuple([judge_spare(MORE, number) for number in range(7)])
        self.assertTrue(all([spare_holds(MORE, number, paper) for number, paper in enumerate(spare)]))
        self.assertIs(lean_holds(MORE, ("lean", spare)), False)

    def test_thinnings(self):
        sizes = set()
        for web in SOME + [PETERSEN] + covered_webs(209, 60, 10, 18) + covered_webs(210, 5, 10, 30):
            found = thinning(web)
            sizes.add(len(found))
            self.assertEqual(len(set(found)), len(found))
            self.assertTrue(is_slow_thinning(web, found), (web, found))
            self.assertIs(is_thinning(web, found), True)
            self.assertEqual(judge_lean(slow_less(web, found))[0], "lean")
        self.assertGreater(len(sizes), 5)

    def test_spare_behind_others(self):
        # A tie may become spare if one that leans on it is taken away.
        self.assertNotIn(5, spare_ties(LATE))
        self.assertIs(is_thinning(LATE, (1, 6, 11)), False)
        self.assertIs(is_thinning(LATE, (5, 1, 6, 11)), False)
        self.assertIs(is_thinning(LATE, (1, 6, 11, 5)), True)
        self.assertTrue(is_slow_thinning(LATE, (1, 6, 11, 5)))
        self.assertTrue(is_slow_thinning(LATE, thinning(LATE)))

    def test_is_thinning(self):
        met = {True: 0, False: 0}
        for web in (TWIN, (2, ((0, 1),) * 3), MORE, WHEEL, THREES, (4, ((0, 1), (0, 1), (0, 3), (1, 2), (2, 3), (2, 3)))):
            spare = [number for number in range(len(web[1]))]
            chance = random.Random(212)
            for _ in range(150):
                numbers = tuple(chance.sample(spare, chance.randint(0, min(4, len(spare)))))
                right = is_slow_thinning(web, numbers)
                met[right] += 1
                self.assertIs(is_thinning(web, numbers), right, (web, numbers))
                for at in range(len(numbers)):
                    self.assertIs(is_thinning(web, numbers[:at + 1] + numbers[:at + 1]), False)
        self.assertGreater(min(met.values()), 50, met)
        self.assertEqual(thinning(web=SQUARE), ())
        self.assertIs(is_thinning(web=SQUARE, thing=()), True)
        for value in list(ODD_VALUES) + [(4,), (-1,), (0, 0), [0], (True,), ((0,),), ("0",)]:
            right = value == () and isinstance(value, tuple)
            self.assertIs(is_thinning(SQUARE, value), right, value)
        for value in ((True,), (False,), [0], [1], (0, 1), (2,), (), ("0",), (0, 0)):
            self.assertIs(is_thinning(TWIN, value), False, value)


if __name__ == "__main__":
    unittest.main()
