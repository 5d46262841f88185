"""Ways by short rings [15.3], herds [15.4], ties held fast [15.5]."""

import random
import unittest
from itertools import combinations, product

from helpers import (COVERED, CUBE, FULL, HEXAGON, LINE, NOT_WEBS, ODD_VALUES, ONE, PETERSEN, PRISM, SHOP, SQUARE, STAR,
                     TRIANGLE, TWIN, TWO_SQUARES, WEBS, covered_webs, expect, quick_pairings, random_webs, twisted)
from oncecrossed.errors import BadNumber, BadPairing, BadTie, BadWeb
from oncecrossed.tiesin import let_ties, needed_ties
from oncecrossed.turnings import rings_between
from oncecrossed.ways import (fast_holds, fast_ties, herd_holds, herds, judge_fast, judge_herd, judge_within, steps_between,
                              within_holds)

TWINS = (4, ((0, 1), (0, 1), (2, 3), (2, 3)))
DECAGON = (10, tuple(sorted([(a, a + 1) for a in range(9)] + [(0, 9)])))
PAIRS = (10, ((0, 1), (0, 1), (2, 3), (2, 3), (4, 5), (4, 5), (6, 7), (6, 7), (8, 9)))
PAIR = (2, ((0, 1),))
# A row of squares, a hexagon beside a doubled tie, and a square with a tie at its end.
LADDER = (10, tuple(sorted([(a, a + 5) for a in range(5)] + [(a, a + 1) for a in range(9) if a != 4])))
SIX_AND_TWO = (8, HEXAGON[1] + ((6, 7), (6, 7)))
TAIL = (6, SQUARE[1][:1] + ((0, 3), (0, 4), (1, 2), (2, 3), (4, 5)))
SOME = [web for web in COVERED + WEBS if web[0] <= 10 and len(web[1]) <= 24] + [TWINS, DECAGON, PAIRS, PAIR, LADDER,
                                                                               SIX_AND_TWO, TAIL]
SOME = [web for web in SOME if len(quick_pairings(web)) <= 60]
MOST = (2, 4, 6, 8, 10, 12)


def near_rows(web, most):
    """All pairs of pairings that are neighbours by a ring of at most so many ties."""
    rows = quick_pairings(web)
    near = {row: [] for row in rows}
    for one, other in combinations(rows, 2):
        rings = rings_between(web, one, other)
        if len(rings) == 1 and len(rings[0]) <= most:
            near[one].append(other)
            near[other].append(one)
    return near


def slow_steps(near, one):
    """The least numbers of steps from one pairing, by shorter and shorter ways."""
    steps = {row: 0 if row == one else 10 ** 6 for row in near}
    for _ in near:
        steps = {row: min([steps[row]] + [steps[other] + 1 for other in near[row]]) for row in near}
    return {row: many for row, many in steps.items() if many < 10 ** 6}


def is_slow_way(near, one, other, rows):
    if not rows or rows[0] != one or rows[-1] != other or not set(rows) <= set(near):
        return False
    return all([far in near[row] for row, far in zip(rows, rows[1:])])


def is_slow_shut(near, rows):
    return list(rows) == sorted(set(rows)) and set(rows) <= set(near) and all([set(near[row]) <= set(rows) for row in rows])


def are_slow_heights(near, one, other, steps, numbers):
    heights = dict(zip(sorted(near), numbers))
    if len(numbers) != len(near) or heights[one] != 0 or heights[other] <= steps:
        return False
    return all([abs(heights[row] - heights[far]) <= 1 for row in near for far in near[row]])


def some_pairs(web, chance, many=6):
    rows = quick_pairings(web)
    if not rows:
        return []
    return list(product(rows, repeat=2)) if len(rows) < 4 else [tuple(chance.choices(rows, k=2)) for _ in range(many)]


class TestWays(unittest.TestCase):
    def test_judged(self):
        chance = random.Random(240)
        kinds = {"way": 0, "heights": 0}
        far = set()
        for web in SOME + covered_webs(241, 15, 10, 16) + random_webs(242, 60, 8, 11):
            if len(quick_pairings(web)) > 60:
                continue
            for most in MOST:
                near = near_rows(web, most)
                for one, other in some_pairs(web, chance):
                    steps = slow_steps(near, one).get(other)
                    far.add(steps)
                    self.assertEqual(steps_between(web, one, other, most), steps)
                    for within in {0, 1, chance.randint(0, 4), 1000, 1 if steps is None else max(0, steps - 1), steps or 0}:
                        kind, paper = judge_within(web, one, other, most, within)
                        kinds[kind] += 1
                        if kind == "way":
                            self.assertTrue(is_slow_way(near, one, other, paper) and len(paper) <= within + 1)
                        else:
                            self.assertTrue(are_slow_heights(near, one, other, within, paper))
                        self.assertEqual(kind == "way", steps is not None and steps <= within)
                        self.assertIs(within_holds(web, one, other, most, within, (kind, paper)), True)
        self.assertGreater(min(kinds.values()), 200, kinds)
        self.assertLessEqual({None, 0, 1, 2, 3}, far)

    def test_rings_of_the_difference(self):
        chance = random.Random(243)
        for web in SOME:
            for one, other in some_pairs(web, chance):
                rings = rings_between(web, one, other)
                steps = steps_between(web, one, other, 12)
                self.assertLessEqual(steps, len(rings))
                row = one
                way = [one]
                for ring in chance.sample(rings, len(rings)):
                    row = tuple(sorted(set(row) ^ set(ring)))
                    way.append(row)
                self.assertIs(within_holds(web, one, other, 12, len(rings), ("way", tuple(way))), True)
                self.assertIs(within_holds(web, one, other, 12, len(rings), ("way", tuple(way[1:]))), False)

    def test_known(self):
        self.assertEqual(steps_between(web=TWINS, one=(0, 2), other=(1, 3), most=2), 2)
        self.assertIsNone(steps_between(SQUARE, (0, 3), (1, 2), 2))
        self.assertEqual(steps_between(SQUARE, (0, 3), (1, 2), 4), 1)
        self.assertEqual([steps_between(DECAGON, (0, 3, 5, 7, 9), (1, 2, 4, 6, 8), most) for most in MOST], [None] * 4 + [1, 1])
        self.assertEqual(judge_within(web=TWINS, one=(0, 2), other=(1, 3), most=12, steps=1), ("heights", (0, 1, 1, 2)))
        self.assertEqual(judge_within(SQUARE, (0, 3), (0, 3), 2, 0), ("way", ((0, 3),)))
        self.assertEqual(judge_within(SQUARE, (0, 3), (1, 2), 2, 1000), ("heights", (0, 1001)))
        self.assertEqual(judge_within(PAIR, (0,), (0,), 12, 0), ("way", ((0,),)))
        self.assertIs(within_holds(web=TWINS, one=(0, 2), other=(1, 3), most=12, steps=1, thing=("heights", (0, 1, 1, 2))), True)
        self.assertEqual(steps_between(PAIRS, (0, 2, 4, 6, 8), (1, 3, 5, 7, 8), 2), 4)

    def test_all_heights(self):
        for web, most in ((TWINS, 2), (FULL, 4), (SQUARE, 2), (SQUARE, 4), (FULL, 2), (TWIN, 2)):
            near = near_rows(web, most)
            rows = sorted(near)
            for one, other, steps in product(rows, rows, (0, 1, 2)):
                for numbers in product((-1, 0, 1, 2, 3), repeat=len(rows)):
                    right = are_slow_heights(near, one, other, steps, numbers)
                    self.assertIs(within_holds(web, one, other, most, steps, ("heights", numbers)), right)

    def test_ways_of_just_so_many_steps(self):
        rows = quick_pairings(TWINS)
        way = ((0, 2), (0, 3), (1, 3))
        for steps, right in ((0, False), (1, False), (2, True), (3, True), (1000, True)):
            self.assertIs(within_holds(TWINS, (0, 2), (1, 3), 2, steps, ("way", way)), right)
        # A way may go to and fro; a pairing may not follow itself, or one that is no neighbour.
        to_and_fro = ((0, 2), (1, 2), (0, 2), (0, 3), (1, 3))
        self.assertEqual([within_holds(TWINS, (0, 2), (1, 3), 2, steps, ("way", to_and_fro)) for steps in (2, 3, 4, 5)],
                         [False, False, True, True])
        for bad in (((0, 2), (0, 2), (0, 3), (1, 3)), ((0, 2), (1, 3)), ((0, 2), (0, 3)), ((0, 3), (1, 3)), (), way[::-1],
                    ((0, 2), (0, 3), (1, 3), (1, 3)), list(way), ((0, 2), [0, 3], (1, 3)), ((0, 2), (0, 3), (1, 3), ())):
            self.assertIs(within_holds(TWINS, (0, 2), (1, 3), 12, 9, ("way", bad)), False, bad)
        self.assertEqual(len(rows), 4)
        ring = quick_pairings(HEXAGON)
        for most in MOST:
            self.assertIs(within_holds(HEXAGON, ring[0], ring[1], most, 1, ("way", ring)), most >= 6)

    def test_wrong_papers(self):
        for one, other, most, steps in (((0, 2), (1, 3), 2, 2), ((0, 2), (1, 3), 2, 1)):
            good = judge_within(TWINS, one, other, most, steps)
            for value in list(ODD_VALUES) + twisted(good):
                right = is_form(value) and are_slow_heights(near_rows(TWINS, 2), one, other, steps, value[1])
                self.assertIs(within_holds(TWINS, one, other, most, steps, value), right, value)
        for value in (("heights", (0, True, 1, 2)), ("heights", [0, 1, 1, 2]), ("heights", (0, 1, 1)), ("heights", (0, 1, 1, 2, 2)),
                      ("heights", (0, 1, 1, 2), ()), ("way", (0, 1, 1, 2)), ("heights", (False, 1, 1, 2)), ("heights", ())):
            self.assertIs(within_holds(TWINS, (0, 2), (1, 3), 12, 1, value), False, value)


def is_form(value):
    """Whether a value is the word "heights" and a tuple of integers that are no bools."""
    if not isinstance(value, tuple) or len(value) != 2 or value[0] != "heights" or not isinstance(value[1], tuple):
        return False
    return all([isinstance(item, int) and not isinstance(item, bool) for item in value[1]])


class TestHerds(unittest.TestCase):
    def test_herds(self):
        chance = random.Random(244)
        sizes = set()
        for web in SOME + covered_webs(245, 15, 10, 16) + random_webs(246, 60, 8, 11):
            if len(quick_pairings(web)) > 60:
                continue
            for most in MOST:
                near = near_rows(web, most)
                found = herds(web, most)
                right = {tuple(sorted(slow_steps(near, row))) for row in near}
                self.assertEqual(list(found), sorted(right))
                sizes |= {len(herd) for herd in found}
                for one, other in some_pairs(web, chance):
                    kind, paper = judge_herd(web, one, other, most)
                    same = any([one in herd and other in herd for herd in found])
                    self.assertEqual(kind, "way" if same else "shut")
                    if same:
                        self.assertTrue(is_slow_way(near, one, other, paper))
                    else:
                        self.assertTrue(is_slow_shut(near, paper) and one in paper and other not in paper)
                    self.assertIs(herd_holds(web, one, other, most, (kind, paper)), True)
        self.assertGreater(len(sizes), 6)

    def test_known(self):
        self.assertEqual(herds(web=FULL, most=2), (((0, 5),), ((1, 4),), ((2, 3),)))
        self.assertEqual(herds(FULL, 4), (((0, 5), (1, 4), (2, 3)),))
        self.assertEqual(herds(TWINS, 2), (((0, 2), (0, 3), (1, 2), (1, 3)),))
        for web in (ONE, STAR, TRIANGLE, (2, ())):
            self.assertEqual(herds(web, 12), ())
        self.assertEqual([len(herds(PETERSEN, most)) for most in MOST], [6, 6, 6, 1, 1, 1])
        self.assertIs(herd_holds(web=SQUARE, one=(0, 3), other=(1, 2), most=2, thing=("shut", ((0, 3),))), True)
        self.assertEqual(judge_herd(web=SQUARE, one=(0, 3), other=(1, 2), most=2), ("shut", ((0, 3),)))
        self.assertEqual(judge_herd(SQUARE, (0, 3), (0, 3), 2), ("way", ((0, 3),)))

    def test_all_shut_tuples(self):
        for web, most in ((TWINS, 2), (FULL, 2), (FULL, 4), (SIX_AND_TWO, 2), (SIX_AND_TWO, 6), (TAIL, 4)):
            near = near_rows(web, most)
            rows = sorted(near)
            for one, other in product(rows, repeat=2):
                for many in range(len(rows) + 1):
                    for shut in combinations(rows, many):
                        right = is_slow_shut(near, shut) and one in shut and other not in shut
                        self.assertIs(herd_holds(web, one, other, most, ("shut", shut)), right, (web, one, other, shut))

    def test_wrong_papers(self):
        for web, one, other, most in ((SIX_AND_TWO, quick_pairings(SIX_AND_TWO)[0], quick_pairings(SIX_AND_TWO)[3], 2),
                                      (TWINS, (0, 2), (1, 3), 2)):
            good = judge_herd(web, one, other, most)
            for value in list(ODD_VALUES) + twisted(good) + [(good[0], good[1][::-1]), (good[0], good[1] * 2), ("heights", (0, 0))]:
                self.assertIs(herd_holds(web, one, other, most, value), False, value)


class TestFast(unittest.TestCase):
    def test_judged(self):
        chance = random.Random(247)
        kinds = {"free": 0, "fast": 0}
        for web in SOME + covered_webs(248, 12, 10, 14) + random_webs(249, 60, 8, 11):
            rows = quick_pairings(web)
            if not rows or len(rows) > 60:
                continue
            for most in MOST:
                near = near_rows(web, most)
                pairing = chance.choice(rows)
                herd = sorted(slow_steps(near, pairing))
                right = [number for number in range(len(web[1])) if len({number in row for row in herd}) == 1]
                self.assertEqual(list(fast_ties(web, pairing, most)), right)
                for number in range(len(web[1])):
                    kind, paper = judge_fast(web, pairing, number, most)
                    kinds[kind] += 1
                    self.assertEqual(kind, "fast" if number in right else "free")
                    if kind == "free":
                        self.assertTrue(is_slow_way(near, pairing, paper[-1], paper))
                        self.assertNotEqual(number in pairing, number in paper[-1])
                    else:
                        self.assertTrue(is_slow_shut(near, paper) and pairing in paper)
                        self.assertEqual(len({number in row for row in paper}), 1)
                    self.assertIs(fast_holds(web, pairing, number, most, (kind, paper)), True)
            free = set(range(len(web[1]))) - set(let_ties(web)) | set(needed_ties(web))
            self.assertEqual(set(fast_ties(web, rows[0], 12)), free)
        self.assertGreater(min(kinds.values()), 200, kinds)

    def test_known(self):
        self.assertEqual(fast_ties(web=SQUARE, pairing=(0, 3), most=2), (0, 1, 2, 3))
        self.assertEqual(fast_ties(SQUARE, (0, 3), 4), ())
        self.assertEqual(fast_ties(LINE, (0, 2), 12), (0, 1, 2))
        self.assertEqual(fast_ties(SIX_AND_TWO, quick_pairings(SIX_AND_TWO)[0], 2), (0, 1, 2, 3, 4, 5))
        self.assertEqual(judge_fast(web=TWIN, pairing=(0,), number=1, most=2), ("free", ((0,), (1,))))
        self.assertEqual(judge_fast(SQUARE, (0, 3), 1, 2), ("fast", ((0, 3),)))
        self.assertIs(fast_holds(web=SQUARE, pairing=(0, 3), number=1, most=2, thing=("fast", ((0, 3),))), True)

    def test_all_tuples(self):
        for web, most in ((TWINS, 2), (FULL, 2), (FULL, 4), (SIX_AND_TWO, 2), (TAIL, 4)):
            near = near_rows(web, most)
            rows = sorted(near)
            for pairing, number in product(rows, range(len(web[1]))):
                for many in range(min(len(rows), 4) + 1):
                    for some in product(rows, repeat=many) if many < 3 else combinations(rows, many):
                        shut = is_slow_shut(near, some) and pairing in some and len({number in row for row in some}) == 1
                        self.assertIs(fast_holds(web, pairing, number, most, ("fast", some)), shut)
                        last = some[-1] if some else pairing
                        way = is_slow_way(near, pairing, last, some) and (number in last) != (number in pairing)
                        self.assertIs(fast_holds(web, pairing, number, most, ("free", some)), way)

    def test_wrong_papers(self):
        for web, pairing, number, most in ((SQUARE, (0, 3), 1, 2), (SIX_AND_TWO, quick_pairings(SIX_AND_TWO)[0], 0, 2),
                                           (TWINS, (0, 2), 1, 2)):
            good = judge_fast(web, pairing, number, most)
            for value in list(ODD_VALUES) + twisted(good) + [("shut", good[1]), ("way", good[1]), (good[0], ())]:
                self.assertIs(fast_holds(web, pairing, number, most, value), False, value)


class TestErrors(unittest.TestCase):
    def test_webs_and_pairings(self):
        calls = ((steps_between, 2, (4,)), (judge_within, 2, (4, 1)), (within_holds, 2, (4, 1, None)), (herds, 0, (4,)),
                 (judge_herd, 2, (4,)), (herd_holds, 2, (4, None)), (fast_ties, 1, (4,)), (judge_fast, 1, (0, 4)),
                 (fast_holds, 1, (0, 4, None)))
        for value in NOT_WEBS:
            for call, many, more in calls:
                expect(self, BadWeb, value, call, value, *(((0, 3),) * many + more))
                expect(self, BadWeb, value, call, value, *((None,) * (many + len(more))))
        for value in list(ODD_VALUES) + twisted((0, 3)):
            for call, many, more in calls:
                if many == 2:
                    expect(self, BadPairing, value, call, SQUARE, value, (9,), *more)
                    expect(self, BadPairing, value, call, SQUARE, (1, 2), value, *((None,) * len(more)))
                if many == 1:
                    expect(self, BadPairing, value, call, SQUARE, value, *((None,) * len(more)))

    def test_numbers(self):
        good = ((0, 3), (1, 2))
        for value in [value for value in ODD_VALUES if value not in (2, 4, 6, 8, 10, 12)] + [3, 11, 13, 14, -2, "4", (4,), SHOP]:
            for call, ahead, more in ((steps_between, good, ()), (judge_within, good, (None,)), (within_holds, good, (-1, None)),
                                      (herds, (), ()), (judge_herd, good, ()), (herd_holds, good, (None,)),
                                      (fast_ties, good[:1], ()), (judge_fast, good[:1] + (0,), ()),
                                      (fast_holds, good[:1] + (0,), (None,))):
                expect(self, BadNumber, value, call, SQUARE, *(ahead + (value,) + more))
        for value in [value for value in ODD_VALUES if isinstance(value, bool) or not isinstance(value, int) or value < 0]:
            expect(self, BadNumber, value, judge_within, SQUARE, *(good + (4, value)))
            expect(self, BadNumber, value, within_holds, SQUARE, *(good + (4, value, None)))
        for value in (1001, 10 ** 99, -1, True):
            expect(self, BadNumber, value, judge_within, SQUARE, *(good + (12, value)))
        for value in [value for value in ODD_VALUES if value not in (0, 1) or isinstance(value, bool)] + [4, -1]:
            for most in (4, None):
                expect(self, BadTie, value, judge_fast, SQUARE, (0, 3), value, most)
                expect(self, BadTie, value, fast_holds, SQUARE, (0, 3), value, most, None)


if __name__ == "__main__":
    unittest.main()
