"""Parts [1.3], rings and sides [1.4]."""

import unittest
from itertools import permutations

from helpers import (BARE, FULL, HEXAGON, LINE, NOT_WEBS, ODD_VALUES, ONE, PENTAGON, PETERSEN, SQUARE, TRIANGLE, TWIN,
                     TWO_SQUARES, TWO_TRIANGLES, WEBS, all_lots, big_web, random_webs, slow_parts, slow_rings, twisted)
from oncecrossed.errors import BadWeb
from oncecrossed.webs import is_joined, is_ring, judge_sides, parts_of, sides_hold


def slow_sides(web):
    """All lots that are one of two sides."""
    return [lot for lot in all_lots(web) if all((a in lot) != (b in lot) for a, b in web[1])]


class TestParts(unittest.TestCase):
    def test_parts(self):
        self.assertEqual(parts_of(ONE), ((0,),))
        self.assertEqual(parts_of(BARE), tuple([(place,) for place in range(12)]))
        self.assertEqual(parts_of(web=(3, ((0, 2),))), ((0, 2), (1,)))
        self.assertEqual(parts_of(TWO_SQUARES), ((0, 2, 4, 6), (1, 3, 5, 7)))
        self.assertEqual(parts_of(big_web()), (tuple(range(12)),))
        for web in list(WEBS) + random_webs(4, 200, 12, 12):
            self.assertEqual(parts_of(web), slow_parts(web), web)

    def test_joined(self):
        for web in list(WEBS) + random_webs(5, 200, 6, 10):
            self.assertIs(is_joined(web), len(slow_parts(web)) == 1, web)
        self.assertIs(is_joined(web=ONE), True)
        self.assertIs(is_joined((2, ())), False)


class TestRings(unittest.TestCase):
    def test_against_all_rows(self):
        for web in [TWIN, TRIANGLE, SQUARE, LINE, FULL, (3, ((0, 1), (0, 1), (0, 2), (1, 2)))] + random_webs(6, 30, 5, 6):
            rings = slow_rings(web)
            for many in range(len(web[1]) + 1):
                for row in permutations(range(len(web[1])), many):
                    self.assertIs(is_ring(web, row), row in rings, (web, row))

    def test_begun_elsewhere_or_turned_round(self):
        ring = (0, 2, 3, 4, 5, 1)
        for at in range(6):
            self.assertIs(is_ring(HEXAGON, ring[at:] + ring[:at]), True)
            self.assertIs(is_ring(HEXAGON, (ring[at:] + ring[:at])[::-1]), True)
        self.assertIs(is_ring(HEXAGON, (0, 2, 4, 3, 5, 1)), False)
        self.assertIs(is_ring(HEXAGON, (0, 2, 3, 4, 5)), False)

    def test_rings_of_two_ties(self):
        web = (3, ((0, 1), (0, 1), (0, 1), (0, 2), (1, 2)))
        for row in permutations(range(5), 2):
            self.assertIs(is_ring(web, row), max(row) < 3, row)
        self.assertIs(is_ring(web, (1, 1)), False)
        self.assertIs(is_ring(thing=(2, 4, 3), web=web), True)
        self.assertIs(is_ring(web, (0, 1, 2)), False)

    def test_places_met_twice(self):
        bow = (5, ((0, 1), (0, 2), (0, 3), (0, 4), (1, 2), (3, 4)))
        self.assertIs(is_ring(bow, (0, 4, 1)), True)
        self.assertIs(is_ring(bow, (0, 4, 1, 2, 5, 3)), False)
        self.assertIs(is_ring(TWO_TRIANGLES, (0, 2, 1)), True)
        self.assertIs(is_ring(TWO_TRIANGLES, (0, 2, 1, 3, 5, 4)), False)

    def test_wrong_values(self):
        for value in ODD_VALUES:
            self.assertIs(is_ring(PENTAGON, value), False, value)
        for value in twisted((0, 2, 1)):
            self.assertIs(is_ring(TRIANGLE, value), False, value)
        for value in ((), (0,), (0, True), (False, 1), [0, 1]):
            self.assertIs(is_ring(TWIN, value), False, value)


class TestSides(unittest.TestCase):
    def test_judged(self):
        for web in list(WEBS) + random_webs(7, 300, 12, 14) + random_webs(8, 50, 12, 40):
            paper = judge_sides(web)
            self.assertIs(sides_hold(web, paper), True, (web, paper))
            self.assertEqual(paper[0], "sides" if slow_sides(web) else "ring", web)
            if paper[0] == "ring":
                self.assertEqual(len(paper[1]) % 2, 1)
                self.assertIs(is_ring(web, paper[1]), True, (web, paper))
            else:
                self.assertIn(paper[1], slow_sides(web))

    def test_kinds(self):
        kinds = [judge_sides(web)[0] for web in (ONE, BARE, TWIN, SQUARE, HEXAGON, LINE, TWO_SQUARES)]
        self.assertEqual(kinds, ["sides"] * 7)
        kinds = [judge_sides(web)[0] for web in (TRIANGLE, PENTAGON, FULL, PETERSEN, TWO_TRIANGLES, big_web())]
        self.assertEqual(kinds, ["ring"] * 6)

    def test_all_lots(self):
        for web in [ONE, (2, ()), TWIN, TRIANGLE, SQUARE, LINE, HEXAGON] + random_webs(9, 60, 5, 6):
            for lot in all_lots(web):
                self.assertIs(sides_hold(web, ("sides", lot)), lot in slow_sides(web), (web, lot))
        self.assertIs(sides_hold(ONE, ("sides", ())), True)
        self.assertIs(sides_hold(thing=("sides", (1, 3)), web=SQUARE), True)

    def test_all_odd_rings(self):
        for web in [TWIN, TRIANGLE, SQUARE, FULL] + random_webs(10, 20, 5, 6):
            rings = slow_rings(web)
            for many in range(len(web[1]) + 1):
                for row in permutations(range(len(web[1])), many):
                    wanted = many % 2 == 1 and row in rings
                    self.assertIs(sides_hold(web, ("ring", row)), wanted, (web, row))

    def test_wrong_values(self):
        for value in ODD_VALUES + tuple(twisted(("sides", (0, 2)))):
            self.assertIs(sides_hold(SQUARE, value), False, value)
        for value in twisted(("ring", (0, 2, 1))):
            self.assertIs(sides_hold(TRIANGLE, value), False, value)
        for value in (("Sides", (0, 2)), ("ring", (0, 2)), ("sides", (0, 2), ()), ("sides", (2, 0)), ["sides", (0, 2)],
                      ("ring", (0, 2, 3, 1)), ((0, 2), "sides"), ("sides", (False, 2))):
            self.assertIs(sides_hold(SQUARE, value), False, value)

    def test_bad_webs(self):
        for value in NOT_WEBS:
            for call in (parts_of, is_joined, judge_sides):
                with self.assertRaises(BadWeb) as caught:
                    call(value)
                self.assertIs(caught.exception.thing, value)
            for call in (sides_hold, is_ring):
                with self.assertRaises(BadWeb) as caught:
                    call(value, [None])
                self.assertIs(caught.exception.thing, value)


if __name__ == "__main__":
    unittest.main()
