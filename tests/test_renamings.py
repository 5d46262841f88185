"""Renamings [1.5]."""

import random
import unittest
from itertools import permutations

from helpers import (BARE, FULL, HEXAGON, NOT_WEBS, ODD_VALUES, ONE, PETERSEN, PRISM, SQUARE, STAR, TRIANGLE, TWIN,
                     TWO_TRIANGLES, WEBS, big_web, random_webs, slow_led, twisted)
from oncecrossed.errors import BadRenaming, BadWeb
from oncecrossed.renamings import led, plain_renaming, renaming_between
from oncecrossed.webs import plain_web

LADDER = (10, ((0, 1), (0, 4), (0, 5), (1, 2), (1, 6), (2, 3), (2, 7), (3, 4), (3, 8), (4, 9), (5, 6), (5, 9), (6, 7),
               (7, 8), (8, 9)))


class TestLed(unittest.TestCase):
    def test_all_renamings(self):
        for web in [ONE, TWIN, TRIANGLE, SQUARE, STAR, FULL] + random_webs(11, 20, 4, 8):
            for renaming in permutations(range(web[0])):
                self.assertEqual(led(web, renaming), slow_led(web, renaming))
        self.assertEqual(led(renaming=(1, 0, 2, 3), web=SQUARE), (4, ((0, 1), (0, 2), (1, 3), (2, 3))))

    def test_bad_renamings(self):
        for value in ODD_VALUES + tuple(twisted((2, 0, 1, 3))) + ((0, 1, 2, 4), (0, 1, 1, 2), (0, 1, 2), (0, 1, 2, -1)):
            with self.assertRaises(BadRenaming) as caught:
                led(SQUARE, value)
            self.assertIs(caught.exception.thing, value)
        for value in ((False,), [0], (), (0, 1), 0):
            with self.assertRaises(BadRenaming):
                led(ONE, value)

    def test_bad_webs(self):
        for value in NOT_WEBS:
            with self.assertRaises(BadWeb) as caught:
                led(value, None)
            self.assertIs(caught.exception.thing, value)


class TestBetween(unittest.TestCase):
    def leads(self, one, other):
        renaming = renaming_between(one, other)
        self.assertIsInstance(renaming, tuple)
        self.assertEqual(sorted(renaming), list(range(one[0])))
        self.assertEqual(slow_led(one, renaming), other)

    def test_against_all_renamings(self):
        webs = random_webs(12, 60, 4, 5)
        for one in webs:
            all_led = {slow_led(one, renaming) for renaming in permutations(range(one[0]))}
            all_plain = {plain_web(web) for web in all_led}
            for other in webs:
                if other in all_led:
                    self.leads(one, other)
                else:
                    self.assertIsNone(renaming_between(one, other), (one, other))
                renaming = plain_renaming(one, other)
                if plain_web(other) in all_plain:
                    self.assertEqual(slow_led(plain_web(one), renaming), plain_web(other))
                else:
                    self.assertIsNone(renaming, (one, other))

    def test_larger_webs(self):
        chance = random.Random(13)
        for web in [PETERSEN, LADDER, PRISM, BARE, big_web()] + random_webs(14, 60, 10, 30):
            places = list(range(web[0]))
            chance.shuffle(places)
            self.leads(web, led(web, tuple(places)))

    def test_larger_webs_without_one(self):
        for one, other in ((PETERSEN, LADDER), (HEXAGON, TWO_TRIANGLES), (TWO_TRIANGLES, HEXAGON), (ONE, (2, ())),
                           ((2, ()), ONE), (SQUARE, FULL), (BARE, (12, ((0, 1),)))):
            self.assertIsNone(renaming_between(one, other))
            self.assertIsNone(plain_renaming(one, other))
        bipartite = (6, ((0, 3), (0, 4), (0, 5), (1, 3), (1, 4), (1, 5), (2, 3), (2, 4), (2, 5)))
        self.assertIsNone(renaming_between(PRISM, bipartite))

    def test_doubled_ties(self):
        one = (4, ((0, 1), (0, 1), (0, 3), (1, 2), (2, 3)))
        other = (4, ((0, 1), (0, 3), (1, 2), (2, 3), (2, 3)))
        across = (4, ((0, 1), (0, 1), (0, 3), (1, 2), (2, 3), (2, 3)))
        beside = (4, ((0, 1), (0, 1), (0, 3), (0, 3), (1, 2), (2, 3)))
        self.leads(one, other)
        self.assertIsNone(renaming_between(across, beside))
        self.assertIsNone(renaming_between(one, SQUARE))
        for web in (one, other, across, beside):
            renaming = plain_renaming(one=web, other=SQUARE)
            self.assertEqual(slow_led(SQUARE, renaming), SQUARE)
        self.assertIsNone(plain_renaming(one, FULL))

    def test_plain_with_twelve_places(self):
        one = big_web()
        other = led(plain_web(one), (3, 1, 2, 0, 11, 9, 10, 8, 4, 5, 7, 6))
        self.assertEqual(slow_led(plain_web(one), plain_renaming(one, other)), other)
        self.assertIsNone(renaming_between(one, other))

    def test_itself(self):
        for web in WEBS:
            self.leads(web, web)
        self.assertEqual(renaming_between(other=ONE, one=ONE), (0,))

    def test_bad_webs(self):
        for call in (renaming_between, plain_renaming):
            for value in NOT_WEBS:
                for one, other in ((value, FULL), (FULL, value), (value, "later")):
                    with self.assertRaises(BadWeb) as caught:
                        call(one, other)
                    self.assertIs(caught.exception.thing, value)


if __name__ == "__main__":
    unittest.main()
