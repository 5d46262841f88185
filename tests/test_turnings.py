"""What parts two pairings [15.1], turnings [15.2], turn rows and freedom [15.6]."""

import random
import unittest
from itertools import combinations, product

from helpers import (COVERED, CUBE, FULL, HEXAGON, LINE, NOT_WEBS, ODD_VALUES, ONE, PETERSEN, PRISM, SHOP, SQUARE, STAR,
                     TRIANGLE, TWIN, TWO_SQUARES, WEBS, covered_webs, expect, quick_pairings, random_webs, slow_rank,
                     slow_rings, twisted)
from oncecrossed.errors import BadNumber, BadPairing, BadRing, BadWeb, NoPairing
from oncecrossed.spans import span_number
from oncecrossed.turnings import (are_neighbours, freedom, pairings_of_both, rings_between, turn_row, turned,
                                  turning_rings)

TWINS = (4, ((0, 1), (0, 1), (2, 3), (2, 3)))
DECAGON = (10, tuple(sorted([(a, a + 1) for a in range(9)] + [(0, 9)])))
PAIRS = (10, ((0, 1), (0, 1), (2, 3), (2, 3), (4, 5), (4, 5), (6, 7), (6, 7), (8, 9)))
PAIR = (2, ((0, 1),))
FULL_SIX = (6, tuple(combinations(range(6), 2)))
SOME = [web for web in COVERED + WEBS if web[0] <= 10 and len(web[1]) <= 24] + [TWINS, DECAGON, PAIRS, PAIR, FULL_SIX]
SOME = [web for web in SOME if len(quick_pairings(web)) <= 200]


def slow_parts_of(web, one, other):
    """The ties in just one of two pairings, melted into sets that meet the same places."""
    lots = [{number} for number in set(one) ^ set(other)]
    for near, far in combinations(sorted(set(one) ^ set(other)), 2):
        if set(web[1][near]) & set(web[1][far]):
            lot, more = [[lot for lot in lots if number in lot][0] for number in (near, far)]
            if lot is not more:
                lots.remove(more)
                lot |= more
    return lots


def is_plain(ring):
    return ring[0] == min(ring) and (len(ring) == 2 or ring[1] < ring[-1])


def slow_told(web, lot):
    """The one way to tell the ties of a ring plainly, by all rings of the web that have these ties."""
    least = min(lot)
    ways = [(least,)]
    while len(ways[0]) < len(lot):
        ways = [way + (number,) for way in ways for number in sorted(lot) if number not in way
                and set(web[1][number]) & set(web[1][way[-1]])]
    ways = [way for way in ways if set(web[1][way[0]]) & set(web[1][way[-1]]) and is_plain(way)]
    assert len(ways) == 1 or len(lot) == 2
    return ways[0]


def slow_turning(web, pairing, most):
    """All rings of at most so many ties that turn a pairing, by the pairings that come."""
    found = []
    for other in quick_pairings(web):
        lots = slow_parts_of(web, pairing, other)
        if len(lots) == 1 and len(lots[0]) <= most:
            found.append(slow_told(web, lots[0]))
    return sorted(found)


def some_pairs(web, chance, many=40):
    """Pairs of pairings of a web, some of a pairing and itself."""
    rows = quick_pairings(web)
    pairs = list(product(rows, repeat=2)) if len(rows) < 8 else [tuple(chance.choices(rows, k=2)) for _ in range(many)]
    return pairs


class TestDifference(unittest.TestCase):
    def test_rings(self):
        chance = random.Random(220)
        sizes = set()
        for web in SOME + covered_webs(221, 40, 10, 20) + random_webs(222, 100, 8, 14):
            for one, other in some_pairs(web, chance):
                rings = rings_between(web, one, other)
                lots = slow_parts_of(web, one, other)
                sizes.add(len(rings))
                self.assertEqual(list(rings), sorted([slow_told(web, lot) for lot in lots]), (web, one, other))
                self.assertEqual(rings, rings_between(web, other, one))
                self.assertIs(are_neighbours(web, one, other), len(lots) == 1)
                for ring in rings:
                    self.assertTrue(all([(ring[at - 1] in one) != (ring[at] in one) for at in range(len(ring))]))
                    if web[0] <= 4:
                        self.assertIn(ring, slow_rings(web))
        self.assertLessEqual({0, 1, 2, 3}, sizes)

    def test_known(self):
        self.assertEqual(rings_between(web=SQUARE, one=(0, 3), other=(1, 2)), ((0, 1, 3, 2),))
        self.assertEqual(rings_between(TWINS, (0, 2), (1, 3)), ((0, 1), (2, 3)))
        self.assertEqual(rings_between(PAIRS, (0, 2, 4, 6, 8), (1, 2, 5, 7, 8)), ((0, 1), (4, 5), (6, 7)))
        self.assertEqual(rings_between(DECAGON, *quick_pairings(DECAGON)), ((0, 1, 9, 8, 7, 6, 5, 4, 3, 2),))
        self.assertEqual(rings_between(HEXAGON, (0, 3, 5), (0, 3, 5)), ())
        self.assertEqual(rings_between(TWO_SQUARES, (0, 2, 6, 7), (1, 3, 4, 5)), ((0, 1, 6, 4), (2, 3, 7, 5)))
        self.assertIs(are_neighbours(web=TWINS, one=(0, 2), other=(1, 2)), True)
        self.assertIs(are_neighbours(TWINS, (0, 2), (1, 3)), False)
        self.assertIs(are_neighbours(TWINS, (0, 2), (0, 2)), False)

    def test_of_both(self):
        chance = random.Random(223)
        sizes = set()
        for web in SOME + covered_webs(224, 30, 10, 20):
            for one, other in some_pairs(web, chance, 12):
                right = [row for row in quick_pairings(web) if set(row) <= set(one) | set(other)]
                found = pairings_of_both(web, one, other)
                sizes.add(len(found))
                self.assertEqual(list(found), sorted(right), (web, one, other))
                self.assertEqual(len(found), 2 ** len(rings_between(web, one, other)))
                self.assertIs(are_neighbours(web, one, other), one != other and found == tuple(sorted([one, other])))
        self.assertLessEqual({1, 2, 4, 8}, sizes)
        self.assertEqual(pairings_of_both(web=TWINS, one=(0, 2), other=(1, 3)), ((0, 2), (0, 3), (1, 2), (1, 3)))
        self.assertEqual(len(pairings_of_both(PAIRS, (0, 2, 4, 6, 8), (1, 3, 5, 7, 8))), 16)


class TestTurnings(unittest.TestCase):
    def test_rings(self):
        chance = random.Random(225)
        for web in SOME + covered_webs(226, 30, 10, 18) + random_webs(227, 60, 8, 12):
            rows = quick_pairings(web)
            for pairing in rows[:2] + (rows[-1:] if rows else ()):
                for most in (2, 4, 6, 8, 10, 12):
                    found = turning_rings(web, pairing, most)
                    self.assertEqual(list(found), slow_turning(web, pairing, most), (web, pairing, most))
                for ring in found:
                    other = turned(web, pairing, ring)
                    self.assertIn(other, rows)
                    self.assertEqual(set(other), set(pairing) ^ set(ring))
                    self.assertEqual(turned(web, other, ring), pairing)
                    self.assertEqual(rings_between(web, pairing, other), (ring,))
                    row = turn_row(web, pairing, ring)
                    less = [(number in other) - (number in pairing) for number in range(len(web[1]))]
                    self.assertEqual(list(row), less)
                    self.assertTrue(all([isinstance(item, int) and not isinstance(item, bool) for item in row]))

    def test_all_rings(self):
        # Each way to tell each ring of small webs, and whether it turns each pairing.
        met = {True: 0, False: 0}
        for web in (SQUARE, FULL, TWIN, TWINS, HEXAGON, PRISM, (4, ((0, 1), (0, 1), (0, 3), (1, 2), (2, 3), (2, 3)))):
            for pairing in quick_pairings(web):
                right = slow_turning(web, pairing, 12)
                for ring in slow_rings(web):
                    met[ring in right] += 1
                    if ring in right:
                        self.assertEqual(set(turned(web, pairing, ring)), set(pairing) ^ set(ring))
                    else:
                        expect(self, BadRing, ring, turned, web, pairing, ring)
                        expect(self, BadRing, ring, turn_row, web, pairing, ring)
        self.assertGreater(min(met.values()), 15)

    def test_known(self):
        self.assertEqual(turning_rings(web=FULL, pairing=(0, 5), most=4), ((0, 1, 5, 4), (0, 2, 5, 3)))
        self.assertEqual(turning_rings(FULL, (0, 5), 2), ())
        self.assertEqual(turning_rings(TWINS, (0, 2), 2), ((0, 1), (2, 3)))
        self.assertEqual(turning_rings(PAIR, (0,), 12), ())
        self.assertEqual(turned(web=SQUARE, pairing=(0, 3), ring=(0, 1, 3, 2)), (1, 2))
        self.assertEqual(turn_row(web=SQUARE, pairing=(0, 3), ring=(0, 1, 3, 2)), (-1, 1, 1, -1))
        self.assertEqual(turn_row(TWINS, (0, 2), (2, 3)), (0, 0, -1, 1))

    def test_sums_of_turn_rows(self):
        chance = random.Random(228)
        for web in SOME:
            for one, other in some_pairs(web, chance, 8):
                sums = [0] * len(web[1])
                for ring in rings_between(web, one, other):
                    sums = [item + more for item, more in zip(sums, turn_row(web, one, ring))]
                self.assertEqual(sums, [(number in other) - (number in one) for number in range(len(web[1]))])


class TestFreedom(unittest.TestCase):
    def test_turn_rows(self):
        met = set()
        for web in SOME + covered_webs(229, 40, 10, 18) + random_webs(230, 150, 8, 12):
            rows = quick_pairings(web)
            if not rows:
                with self.assertRaises(NoPairing):
                    freedom(web)
                continue
            found = freedom(web)
            met.add(found)
            for pairing in rows[:2] + rows[-1:]:
                rings = turning_rings(web, pairing, 12)
                self.assertEqual(slow_rank([turn_row(web, pairing, ring) for ring in rings]), found, web)
        self.assertGreater(len(met), 6)

    def test_covered(self):
        for web in [web for web in SOME if web in COVERED] + covered_webs(231, 40, 10, 20):
            self.assertEqual(freedom(web), span_number(web) - 1)

    def test_known(self):
        for web, right in ((SQUARE, 1), (FULL, 2), (PAIR, 0), (TWINS, 2), (PAIRS, 4), (LINE, 0), (PETERSEN, 5), (TWO_SQUARES, 2)):
            self.assertEqual(freedom(web=web), right, web)
        for web in (ONE, STAR, TRIANGLE, (2, ()), (12, ())):
            with self.assertRaises(NoPairing):
                freedom(web)


class TestErrors(unittest.TestCase):
    def test_webs(self):
        for value in NOT_WEBS:
            for call, more in ((rings_between, ((), ())), (are_neighbours, (None, None)), (pairings_of_both, ((), ())),
                               (turning_rings, ((), 4)), (turned, (None, None)), (turn_row, (None, None)), (freedom, ())):
                expect(self, BadWeb, value, call, value, *more)

    def test_pairings(self):
        wrong = [value for value in ODD_VALUES] + twisted((0, 3)) + [(0, 1), (0, 2), (3, 0), (0,), (0, 3, 3), [0, 3]]
        for value in wrong:
            for call in (rings_between, are_neighbours, pairings_of_both):
                expect(self, BadPairing, value, call, SQUARE, value, (1, 2))
                expect(self, BadPairing, value, call, SQUARE, value, None)
                expect(self, BadPairing, value, call, SQUARE, (1, 2), value)
            for call, more in ((turning_rings, 3), (turned, (0, 1, 3, 2)), (turn_row, None)):
                expect(self, BadPairing, value, call, SQUARE, value, more)
        for value in ((), (0,), None):
            expect(self, BadPairing, value, turning_rings, STAR, value, 4)

    def test_numbers(self):
        for value in [value for value in ODD_VALUES if value not in (2, 4, 6, 8, 10, 12)] + [3, 11, 13, 14, -2, 0, "4", (4,), SHOP]:
            expect(self, BadNumber, value, turning_rings, SQUARE, (0, 3), value)

    def test_rings(self):
        good = (0, 1, 3, 2)
        wrong = list(ODD_VALUES) + twisted(good) + [good[::-1], (1, 3, 2, 0), (0, 2, 3, 1), (0, 3), (0, 1), (0, 0), (1, 0)]
        for value in wrong:
            for call in (turned, turn_row):
                expect(self, BadRing, value, call, SQUARE, (0, 3), value)
        for value in ((1, 0), (0, 0), (0,), (0, 1, 0, 1), (False, True), [0, 1]):
            expect(self, BadRing, value, turned, TWIN, (0,), value)
        # A ring without ties of the pairing, ties that are no ring, and a ring of three ties.
        for ring in ((0, 2, 5, 3), (0, 1, 4, 5), (0, 1, 3)):
            expect(self, BadRing, ring, turned, FULL, (1, 4), ring)
        for pairing in quick_pairings(CUBE):
            for ring in slow_turning(CUBE, pairing, 12)[:4]:
                for other in quick_pairings(CUBE):
                    if ring not in slow_turning(CUBE, other, 12):
                        expect(self, BadRing, ring, turn_row, CUBE, other, ring)


if __name__ == "__main__":
    unittest.main()
