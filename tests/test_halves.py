"""Half corners [11.1], what the stars alone tell [11.2], and when they tell all [11.3]."""

import random
import unittest
from itertools import combinations, product

from helpers import (COVERED, CUBE, CUT_PRISM, FULL, HEXAGON, LENS, LINE, NOT_WEBS, ODD_VALUES, ONE, PENTAGON, PETERSEN,
                     PRISM, SQUARE, STAR, THREES, TRIANGLE, TWIN, TWO_TRIANGLES, WEBS, WHEEL, covered_webs, expect,
                     quick_pairings, random_webs, slow_rings, slow_sum, twisted)
from oncecrossed.bricks import is_brick
from oncecrossed.errors import BadHalf, BadWeb, BadWeights
from oncecrossed.halves import halves, halves_hold, is_half, judge_halves, ringed_half, row_of_half
from oncecrossed.mixes import judge_mix

TWO = (6, ((0, 1), (0, 2), (1, 2), (2, 3), (3, 4), (3, 5), (4, 5)))
THICK_TRIANGLE = (3, ((0, 1), (0, 1), (0, 2), (1, 2), (1, 2), (1, 2)))
# A ring of three and one of five, with one tie between them; two rings of three and a pair beside them.
UNEVEN = (8, ((0, 1), (0, 2), (1, 2), (2, 3), (3, 4), (3, 7), (4, 5), (5, 6), (6, 7)))
BESIDE = (8, ((0, 4), (0, 6), (1, 3), (1, 3), (2, 5), (2, 7), (4, 6), (5, 7)))
# Eight places and sixteen ties, the most there may be.
SIXTEEN = (8, tuple(sorted(CUBE[1] + ((0, 3), (1, 2), (4, 7), (5, 6)))))
SMALL = [web for web in WEBS + COVERED if 1 < web[0] <= 8 and len(web[1]) <= 16] + [TWO, THICK_TRIANGLE, UNEVEN, BESIDE, SIXTEEN]


def slow_rows(web):
    """All rows of half corners: weights from 0 to 2 with a sum of 2 over each star, whose 1s are odd rings."""
    found = [()]
    for number in range(len(web[1])):
        longer = []
        for row, many in product(found, (0, 1, 2)):
            sums = [sum([weight for weight, ends in zip(row + (many,), web[1]) if place in ends]) for place in range(web[0])]
            later = [place for ends in web[1][number + 1:] for place in ends]
            if all([total == 2 or total < 2 and place in later for place, total in enumerate(sums)]):
                longer.append(row + (many,))
        found = longer
    if not web[1]:
        return []
    return [row for row in found if are_odd_rings(web, [number for number, weight in enumerate(row) if weight == 1])]


def are_odd_rings(web, numbers):
    """Whether the ties that are 1, two at each of their places, make rings with an odd number of ties."""
    lots = [{number} for number in numbers]
    for one, other in combinations(numbers, 2):
        if set(web[1][one]) & set(web[1][other]):
            near, far = [[lot for lot in lots if number in lot][0] for number in (one, other)]
            if near is not far:
                lots.remove(far)
                near |= far
    return all([len(lot) % 2 for lot in lots])


def is_slow_half(web, half):
    """Whether rings and ties are a half corner: by the definition, with all rings of the web at hand."""
    rings, ties = half
    met = [place for number in ties for place in web[1][number]]
    for ring in rings:
        if ring not in slow_rings(web) or len(ring) % 2 == 0:
            return False
        places = [(set(web[1][ring[at - 1]]) & set(web[1][ring[at]])).pop() for at in range(len(ring))]
        if places[0] != min(places) or places[1] > places[-1]:
            return False
        met.extend(places)
    return sorted(met) == list(range(web[0])) and list(rings) == sorted(rings) and list(ties) == sorted(ties)


def slow_row(web, half):
    return tuple([2 if number in half[1] else int(any([number in ring for ring in half[0]])) for number in range(len(web[1]))])


def slow_holds(web, weights, paper):
    """Whether a certificate of the right form is right."""
    if paper[0] == "below":
        return weights[paper[1]] < 0
    if paper[0] == "stars":
        return paper[1] < paper[2] and slow_sum(web, weights, paper[1:2]) != slow_sum(web, weights, paper[2:])
    ones = [half for half, _ in paper[2]]
    made = [0] * len(weights)
    for half, many in paper[2]:
        made = [item + many * more for item, more in zip(made, slow_row(web, half))]
    return (paper[1] > 0 and ones == sorted(set(ones)) and all([many > 0 for _, many in paper[2]])
            and made == [paper[1] * weight for weight in weights] and set(ones) <= set(halves(web)))


def some_weights(web, chance):
    """Weights of many kinds, up to 1,000: sums of half corners and others."""
    rows = [slow_row(web, half) for half in halves(web)]
    found = [(0,) * len(web[1]), (1,) * len(web[1]), (1000,) * len(web[1]), tuple([chance.randint(-1, 2) for _ in web[1]])]
    for _ in range(5 if rows else 0):
        made = (0,) * len(web[1])
        for row in chance.choices(rows, k=chance.randint(1, 5)):
            many = chance.choice((1, 1, 2, chance.randint(1, 100)))
            made = tuple([item + many * more for item, more in zip(made, row)])
        found.append(made)
        # Half of the sum of two rings of even length is a sum of half corners by halves only.
        found.append(tuple([item // 2 for item in made]))
    return found


class TestHalves(unittest.TestCase):
    def test_all(self):
        many = 0
        for web in SMALL + [web for web in random_webs(160, 150, 7, 14) if web[0] > 1] + covered_webs(161, 25, 8, 13):
            found = halves(web)
            many += len([half for half in found if half[0]])
            self.assertEqual(list(found), sorted(set(found)))
            self.assertEqual(sorted([slow_row(web, half) for half in found]), sorted(slow_rows(web)), web)
            for half in found:
                self.assertIs(is_half(web, half), True)
                self.assertEqual(row_of_half(web, half), slow_row(web, half))
                if web[0] <= 6:
                    self.assertTrue(is_slow_half(web, half), (web, half))
        self.assertGreater(many, 100)

    def test_known(self):
        self.assertEqual(halves(web=FULL), (((), (0, 5)), ((), (1, 4)), ((), (2, 3))))
        self.assertEqual(halves(TRIANGLE), ((((0, 2, 1),), ()),))
        self.assertEqual(halves(PENTAGON), ((((0, 2, 3, 4, 1),), ()),))
        self.assertEqual(len(halves(THICK_TRIANGLE)), 6)
        self.assertIn((((1, 4, 2),), ()), halves(THICK_TRIANGLE))
        self.assertEqual(halves(UNEVEN), (((), (0, 3, 6, 8)), (((0, 2, 1), (4, 6, 7, 8, 5)), ())))
        self.assertEqual(halves(BESIDE), ((((0, 6, 1), (4, 7, 5)), (2,)), (((0, 6, 1), (4, 7, 5)), (3,))))
        self.assertEqual(halves(LINE), (((), (0, 2)),))
        self.assertEqual(halves(TWIN), (((), (0,)), ((), (1,))))
        for web in (STAR, (2, ()), (5, ())):
            self.assertEqual(halves(web), ())
        self.assertEqual(row_of_half(web=BESIDE, half=halves(BESIDE)[1]), (1, 1, 0, 2, 1, 1, 1, 1))

    def test_pairings_doubled(self):
        for web in SMALL:
            self.assertEqual(tuple([ties for rings, ties in halves(web) if not rings]), quick_pairings(web))

    def test_rings_told_otherwise(self):
        for web in (TRIANGLE, TWO, UNEVEN, BESIDE):
            rings, ties = [half for half in halves(web) if half[0]][0]
            for at, ring in enumerate(rings):
                for turn in range(len(ring)):
                    turned = ring[turn:] + ring[:turn]
                    for told in (turned, turned[::-1]):
                        half = (rings[:at] + (told,) + rings[at + 1:], ties)
                        self.assertIs(is_half(web, half), told == ring, half)
            self.assertIs(is_half(web, (rings[::-1], ties)), len(rings) == 1)
            self.assertIs(is_half(web, (rings + rings[:1], ties)), False)

    def test_wrong_halves(self):
        for web in (TWO, BESIDE, UNEVEN):
            good = [half for half in halves(web) if half[0]][0]
            for value in list(ODD_VALUES) + twisted(good):
                self.assertIs(is_half(web, thing=value), False, value)
                expect(self, BadHalf, value, row_of_half, web, value)
        # Even rings are none, rings may have no place in common, and each place has its tie or its ring.
        for web, half in ((SQUARE, (((0, 2, 3, 1),), ())), (TWIN, (((0, 1),), ())), (TRIANGLE, ((), (0,))),
                          (LENS, (((0, 5, 1), (1, 9, 2)), ())), (FULL, (((0, 3, 1),), (5,))), (FULL, (((0, 3, 1),), ())),
                          (FULL, ((), (0,))), (FULL, ((), (5, 0))), (FULL, ((), (0, 0, 5))), (FULL, ((), (0, 1))),
                          ((2, ()), ((), ())), (TWO, (((0, 2, 1),), (4,))), (TRIANGLE, ((), ()))):
            self.assertIs(is_half(web, half), False, half)
            expect(self, BadHalf, half, row_of_half, web, half)

    def test_errors(self):
        for value in list(NOT_WEBS) + [ONE]:
            for call, more in ((is_half, (None,)), (row_of_half, (None,)), (halves, ()), (judge_halves, (None,)),
                               (halves_hold, (None, None)), (ringed_half, ())):
                expect(self, BadWeb, value, call, value, *more)
        for value in ODD_VALUES + ((1, 2, 3), (1,) * 5, [1] * 4, (1, 1, 1, True), (1, 1, 1, "1")):
            expect(self, BadWeights, value, judge_halves, SQUARE, value)
            expect(self, BadWeights, value, halves_hold, SQUARE, value, ("halves", 1, ()))


class TestStars(unittest.TestCase):
    def test_judged(self):
        chance = random.Random(162)
        kinds = {"halves": 0, "below": 0, "stars": 0}
        for web in SMALL + [web for web in random_webs(163, 150, 7, 14) if web[0] > 1] + covered_webs(164, 40, 8, 16):
            for weights in some_weights(web, chance):
                paper = judge_halves(web, weights)
                kinds[paper[0]] += 1
                self.assertTrue(slow_holds(web, weights, paper), (web, weights, paper))
                self.assertIs(halves_hold(web, weights, paper), True, (web, weights, paper))
        self.assertGreater(min(kinds.values()), 100, kinds)

    def test_known(self):
        self.assertEqual(judge_halves(web=SQUARE, weights=(1, 0, 0, 1)), ("halves", 2, ((((), (0, 3)), 1),)))
        self.assertEqual(judge_halves(SQUARE, (1, 0, 0, 0)), ("stars", 0, 2))
        self.assertEqual(judge_halves(SQUARE, (0, -1, 2, 0)), ("below", 1))
        self.assertEqual(judge_halves((3, ()), ())[0], "halves")
        paper = judge_halves(TWO, (1, 1, 1, 0, 1, 1, 1))
        self.assertTrue(slow_holds(TWO, (1, 1, 1, 0, 1, 1, 1), paper))
        self.assertEqual(judge_halves(TRIANGLE, (1000,) * 3)[0], "halves")
        self.assertEqual(judge_halves(LINE, (1000, 0, 999))[0], "stars")
        self.assertEqual(judge_halves(TRIANGLE, (0, 0, -1)), ("below", 2))

    def test_equal_stars(self):
        # Exactly one kind of certificate: the first one if the sums are equal and no weight is below 0.
        for web in (SQUARE, TRIANGLE, LINE, TWIN, (3, ((0, 1), (0, 2)))):
            for weights in product((-1, 0, 1, 2), repeat=len(web[1])):
                sums = {slow_sum(web, weights, (place,)) for place in range(web[0])}
                even = len(sums) == 1 and min(weights) >= 0
                self.assertEqual(judge_halves(web, weights)[0] == "halves", even, (web, weights))
                for number, (one, other) in product(range(len(weights)), product(range(web[0]), repeat=2)):
                    self.assertIs(halves_hold(web, weights, ("below", number)), weights[number] < 0)
                    unlike = slow_sum(web, weights, (one,)) != slow_sum(web, weights, (other,))
                    self.assertIs(halves_hold(web, weights, ("stars", one, other)), one < other and unlike)

    def test_terms(self):
        ring = (((0, 2, 1), (4, 6, 5)), ())
        weights = (1, 1, 1, 0, 1, 1, 1)
        for many in (1, 3, 10 ** 98):
            self.assertIs(halves_hold(web=TWO, weights=weights, thing=("halves", many, ((ring, many),))), True)
            self.assertIs(halves_hold(TWO, weights, ("halves", many + 1, ((ring, many),))), False)
        line = ((), (0, 3, 6))
        both = (1, 1, 1, 0, 1, 1, 1)
        both = tuple([2 * a + b for a, b in zip(both, slow_row(TWO, line))])
        good = ("halves", 1, ((line, 1), (ring, 2)))
        self.assertIs(halves_hold(TWO, both, ("halves", 1, tuple(sorted(good[2])))), True)
        rows = tuple(sorted(good[2]))
        for paper in (("halves", 1, rows[::-1]), ("halves", 1, rows[:1]), ("halves", 1, rows + rows[1:]), ("halves", 0, ()),
                      ("halves", 1, ((line, 1), (ring, 1), (ring, 1))), ("halves", True, rows), ("halves", 1, list(rows)),
                      ("halves", rows), ["halves", 1, rows], ("mix", 1, rows), ("halves", -1, ((line, -1), (ring, -2)))):
            self.assertIs(halves_hold(TWO, both, paper), False, paper)
        none = (0,) * 7
        for many, right in ((1, True), (9, True), (0, False), (-1, False), (True, False)):
            self.assertIs(halves_hold(TWO, none, ("halves", many, ())), right)
        self.assertIs(halves_hold(TWO, none, ("halves", 1, ((ring, 0),))), False)
        more = sorted([(half, 1) for half in halves(FULL)][:2] + [(halves(FULL)[2], -1)])
        less = tuple([a + b - c for a, b, c in zip(*[slow_row(FULL, half) for half in halves(FULL)])])
        self.assertIs(halves_hold(FULL, less, ("halves", 1, tuple(more))), False)

    def test_wrong_papers(self):
        for web, weights, paper in ((TWO, (1, 1, 1, 0, 1, 1, 1), ("halves", 1, (((((0, 2, 1), (4, 6, 5)), ()), 1),))),
                                    (SQUARE, (0, -1, 2, 0), ("below", 1)), (SQUARE, (1, 1, 0, 0), ("stars", 0, 1)),
                                    (SQUARE, (4, 2, 2, 4), ("halves", 1, ((((), (0, 3)), 2), (((), (1, 2)), 1))))):
            right = paper[0] != "halves" or slow_holds(web, weights, (paper[0], paper[1], tuple(sorted(paper[2]))))
            self.assertTrue(right)
            for value in list(ODD_VALUES) + twisted(paper):
                self.assertIs(halves_hold(web, weights, value), False, value)
        self.assertIs(halves_hold(TRIANGLE, (1, 1, 1), ("odd", (0, 1, 2))), False)


class TestRinged(unittest.TestCase):
    def test_fewest_rings(self):
        met = set()
        for web in SMALL + [web for web in random_webs(165, 200, 8, 13) if web[0] > 1] + covered_webs(166, 30, 8, 14):
            many = [len(rings) for rings, _ in halves(web) if rings]
            found = ringed_half(web)
            if found is None:
                self.assertEqual(many, [], web)
                met.add(0)
            else:
                self.assertIn(found, halves(web))
                self.assertEqual(len(found[0]), min(many))
                met.add(min(many))
        self.assertEqual(met, {0, 1, 2})
        self.assertIsNone(ringed_half(web=FULL))
        # Here a half corner may have one ring of five, or a ring of three.
        self.assertEqual(len(ringed_half((5, tuple(combinations(range(5), 2))))[0]), 1)

    def test_when_the_stars_tell_all(self):
        chance = random.Random(167)
        met = {True: 0, False: 0}
        for web in SMALL + covered_webs(168, 40, 8, 15):
            if not quick_pairings(web):
                continue
            ringed = ringed_half(web)
            met[ringed is None] += 1
            if ringed is not None:
                self.assertEqual(judge_mix(web, slow_row(web, ringed))[0], "odd")
                continue
            for weights in some_weights(web, chance):
                if judge_halves(web, weights)[0] == "halves":
                    self.assertEqual(judge_mix(web, weights)[0], "mix")
        self.assertGreater(min(met.values()), 5)

    def test_bricks(self):
        bricks = [web for web in SMALL + covered_webs(169, 120, 8, 15) if web in COVERED or web[0] > 3]
        bricks = [web for web in bricks if quick_pairings(web) and web not in (LINE, TWO_TRIANGLES) and is_covered_brick(web)]
        met = {True: 0, False: 0}
        for web in bricks:
            found = ringed_half(web)
            met[found is None] += 1
            self.assertTrue(found is None or len(found[0]) == 2, web)
        self.assertGreater(min(met.values()), 3, met)
        for web in (PRISM, WHEEL):
            self.assertEqual(ringed_half(web) is None, web == WHEEL)
        for web in (THREES, CUBE, HEXAGON, SQUARE):
            self.assertIsNone(ringed_half(web))
        self.assertEqual(len(ringed_half(CUT_PRISM)[0]), 2)
        self.assertEqual(len(ringed_half(PETERSEN)[0]), 2)


def is_covered_brick(web):
    try:
        return is_brick(web)
    except BadWeb:
        return False


if __name__ == "__main__":
    unittest.main()
