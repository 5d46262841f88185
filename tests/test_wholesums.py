"""Whole sums [9.1], and why five [9.2]."""

import random
import unittest
from functools import lru_cache
from itertools import combinations

from helpers import (BIG_RING, COVERED, CUBE, CUT_PETERSEN, DOUBLE_PETERSEN, FULL, HEXAGON, LADDER, LENS, ODD_VALUES,
                     PETERSEN, SPLIT_PETERSEN, SQUARE, THICK_RING, THREES, TIED_PETERSEN, TWIN, covered_webs, expect, expect_bad_webs,
                     is_slow_terms, quick_pairings, slow_led, slow_sum, slow_tight, slow_total, twisted)
from oncecrossed.errors import BadLots, BadWeb, BadWeights
from oncecrossed.lists import is_petersen
from oncecrossed.spans import judge_span, span_holds
from oncecrossed.takings import piece_numbers
from oncecrossed.wholesums import five_lots, five_rings, judge_whole, whole_holds

SINGLE = tuple([(place,) for place in range(10)])
# The Petersen web with its place 0 made three places in a row, the middle one tied twice to either end.
OTHER_SPLIT = (12, tuple(sorted([(a, b) for a, b in PETERSEN[1] if a > 0]
                                + [(1, 10), (4, 10), (5, 11), (0, 10), (0, 10), (0, 11), (0, 11)])))
WITH_PETERSEN = (PETERSEN, DOUBLE_PETERSEN, SPLIT_PETERSEN, TIED_PETERSEN, OTHER_SPLIT,
                 slow_led(SPLIT_PETERSEN, (11, 3, 5, 0, 8, 2, 10, 6, 1, 4, 9, 7)))


def slow_between(web, lots):
    """The web in which lots that have each place once are laid together, in their order."""
    names = {place: at for at, lot in enumerate(lots) for place in lot}
    called = [(names[a], names[b]) for a, b in web[1] if names[a] != names[b]]
    return (len(lots), tuple(sorted([(min(pair), max(pair)) for pair in called])))


@lru_cache(None)
def slow_five_lots(web):
    """All tuples of ten tight lots that make a web the Petersen web, for webs of at most twelve places."""
    found = []
    for lot in combinations(range(web[0]), max(web[0] - 9, 0)):
        if len(lot) in (1, 3):
            lots = tuple(sorted([lot] + [(place,) for place in range(web[0]) if place not in lot]))
            if is_petersen(slow_between(web, lots)) and slow_tight(web, lot):
                found.append(lots)
    return tuple(sorted(set(found)))


def is_slow_ring(web, lots, ring):
    """Whether each of some positions is tied to just two others of them."""
    pairs = {(a, b) for a, b in slow_between(web, lots)[1] if a in ring and b in ring}
    return all([len([pair for pair in pairs if at in pair]) == 2 for at in ring])


def slow_ring_sum(web, weights, lots, ring):
    """The sum of weights over all ties between two unlike lots of a ring."""
    names = {place: at for at, lot in enumerate(lots) for place in lot}
    return sum([weight for weight, (a, b) in zip(weights, web[1])
                if names[a] != names[b] and names[a] in ring and names[b] in ring])


def slow_holds(web, weights, paper):
    """Whether a certificate of the right form is right."""
    if paper[0] == "whole":
        return is_slow_terms(web, paper[1]) and slow_total(web, paper[1]) == tuple(weights)
    if paper[0] == "cuts":
        return (slow_tight(web, paper[1]) and slow_tight(web, paper[2])
                and slow_sum(web, weights, paper[1]) != slow_sum(web, weights, paper[2]))
    lots, ring = paper[1:]
    right = lots in slow_five_lots(web) and list(ring) == sorted(set(ring)) and len(ring) == 5
    return right and is_slow_ring(web, lots, ring) and slow_ring_sum(web, weights, lots, ring) % 2 == 1


def some_weights(web, chance):
    """Weights of many kinds: whole sums, and halves of whole sums that are even at each tie."""
    rows = [slow_total(web, ((row, 1),)) for row in quick_pairings(web)]
    found = [(1,) * len(web[1]), (2,) * len(web[1]), (-3,) * len(web[1]), (1000000,) * len(web[1])]
    for _ in range(4):
        made = [0] * len(web[1])
        for _ in range(6):
            many = chance.choice((1, -1, 2, chance.randint(-90000, 90000)))
            made = [item + many * more for item, more in zip(made, chance.choice(rows))]
        found.append(tuple(made))
        made[chance.randrange(len(made))] += 1
        found.append(tuple(made))
        if is_petersen(web):
            # Weights of equal sums over all stars, which every double is a whole sum of a brick of this kind.
            found.append(tuple([item + 1 for item in found[-2]]))
    return found


class TestWhole(unittest.TestCase):
    def test_judged(self):
        chance = random.Random(130)
        kinds = {"whole": 0, "cuts": 0, "five": 0}
        for web in list(COVERED) + [THICK_RING] + list(WITH_PETERSEN) * 4 + covered_webs(131, 70, 12, 24):
            for weights in some_weights(web, chance):
                paper = judge_whole(web, weights)
                kinds[paper[0]] += 1
                self.assertTrue(slow_holds(web, weights, paper), (web, weights, paper))
                self.assertIs(whole_holds(web, weights, paper), True, (web, weights, paper))
        self.assertGreater(min(kinds.values()), 25)

    def test_doubles(self):
        # Weights in the span whose doubles are whole sums: they are whole sums but for a Petersen brick.
        chance = random.Random(132)
        for web in WITH_PETERSEN + (LENS, CUBE, FULL, BIG_RING):
            for weights in some_weights(web, chance):
                if judge_span(web, weights)[0] == "sums":
                    kind = judge_whole(web, weights)[0]
                    double = judge_whole(web, tuple([2 * weight for weight in weights]))
                    self.assertEqual(double[0], "whole")
                    self.assertTrue(kind == "whole" or (kind == "five" and piece_numbers(web)[1]))
                    paper = judge_span(web, weights)
                    self.assertIs(span_holds(web, weights, paper), True)

    def test_petersen_with_a_tie_more(self):
        # It is no Petersen brick any longer, so what bars the sum of all its old ties goes with the new one.
        for ends in [ends for ends in combinations(range(10), 2) if ends not in PETERSEN[1]]:
            for renaming in (tuple(range(10)), (3, 8, 1, 9, 0, 6, 2, 7, 5, 4), (9, 8, 7, 6, 5, 4, 3, 2, 1, 0)):
                new = tuple(sorted([renaming[place] for place in ends]))
                web = slow_led((10, tuple(sorted(PETERSEN[1] + (ends,)))), renaming)
                weights = tuple([int(pair != new) for pair in web[1]])
                paper = judge_whole(web, weights)
                self.assertEqual(paper[0], "whole", web)
                self.assertTrue(slow_holds(web, weights, paper))
                self.assertEqual(judge_span(web, weights)[:2], ("sums", 1))

    def test_known(self):
        self.assertEqual(judge_whole(web=PETERSEN, weights=(1,) * 15)[0], "five")
        self.assertEqual(judge_whole(PETERSEN, (2,) * 15)[0], "whole")
        self.assertEqual(judge_whole(DOUBLE_PETERSEN, (1,) * 30)[0], "whole")
        self.assertEqual(judge_whole(DOUBLE_PETERSEN, (1, 0) * 15)[0], "five")
        self.assertEqual(judge_whole(PETERSEN, (0,) * 15), ("whole", ()))
        self.assertEqual(judge_whole(TWIN, (3, 0)), ("whole", (((0,), 3),)))
        self.assertEqual(judge_whole(SQUARE, (1, 0, 0, 0))[0], "cuts")
        self.assertEqual(judge_whole(CUT_PETERSEN, (1,) * 18)[0], "whole")
        self.assertIs(whole_holds(web=PETERSEN, weights=(1,) * 15, thing=("five", SINGLE, (0, 1, 2, 3, 4))), True)

    def test_both_kinds_of_no(self):
        weights = (1,) * 14 + (2,)
        self.assertEqual(judge_whole(PETERSEN, weights)[0], "cuts")
        self.assertIs(whole_holds(PETERSEN, weights, ("five", SINGLE, (0, 1, 2, 3, 4))), True)
        self.assertIs(whole_holds(PETERSEN, weights, ("cuts", (0,), (9,))), True)
        self.assertIs(whole_holds(PETERSEN, weights, ("cuts", (0,), (1,))), False)


class TestFive(unittest.TestCase):
    def test_lots(self):
        self.assertEqual(five_lots(web=PETERSEN), (SINGLE,))
        self.assertEqual(five_lots(DOUBLE_PETERSEN), (SINGLE,))
        # The places 10 and 11 have two ties each, so either of them is the middle of three.
        self.assertEqual(five_lots(SPLIT_PETERSEN), (SINGLE[:9] + ((9, 10, 11),), SINGLE[:7] + ((7, 10, 11), (8,), (9,))))
        self.assertEqual([lots[0] for lots in five_lots(OTHER_SPLIT)], [(0, 5, 11), (0, 10, 11)])
        self.assertEqual(len(five_lots(TIED_PETERSEN)), 2)
        self.assertIn(((0, 10, 11),) + SINGLE[1:], five_lots(TIED_PETERSEN))
        for web in (TWIN, SQUARE, FULL, HEXAGON, LENS, THREES, CUBE, CUT_PETERSEN, BIG_RING, LADDER):
            self.assertEqual(five_lots(web), ())
        for web in COVERED + WITH_PETERSEN + tuple(covered_webs(133, 40, 12, 20)):
            self.assertEqual(five_lots(web), slow_five_lots(web) if web[0] >= 10 else (), web)

    def test_rings(self):
        for web in WITH_PETERSEN:
            for lots in five_lots(web):
                found = five_rings(web=web, lots=lots)
                self.assertEqual(len(found), 12)
                self.assertEqual(found, tuple([ring for ring in combinations(range(10), 5)
                                               if is_slow_ring(web, lots, ring)]))
                for row in quick_pairings(web):
                    weights = slow_total(web, ((row, 1),))
                    for ring in found:
                        self.assertEqual(slow_ring_sum(web, weights, lots, ring) % 2, 0)
        self.assertEqual(five_rings(PETERSEN, SINGLE)[:2], ((0, 1, 2, 3, 4), (0, 1, 2, 5, 7)))

    def test_bad_lots(self):
        expect_bad_webs(self, BadWeb, five_lots)
        expect_bad_webs(self, BadWeb, five_rings, SINGLE)
        expect_bad_webs(self, BadWeb, five_rings, None)
        for value in list(ODD_VALUES) + twisted(SINGLE) + [SINGLE[::-1], SINGLE[:9], SINGLE + ((),), ((),) + SINGLE,
                                                           SINGLE[:9] + SINGLE[8:9], tuple(range(10)), [SINGLE]]:
            expect(self, BadLots, value, five_rings, PETERSEN, value)
        lots = five_lots(SPLIT_PETERSEN)[0]
        for value in (SINGLE, SINGLE + ((10,), (11,)), lots[::-1], lots[:9] + ((10, 9, 11),), lots[:9] + ((9, 10),),
                      SINGLE[:6] + ((6, 10, 11), (7,), (8,), (9,)), ((0, 10, 11),) + SINGLE[1:], lots[:8] + ((8, 9, 10), (11,))):
            expect(self, BadLots, value, five_rings, SPLIT_PETERSEN, value)
        # Ten single places of other webs.
        for web in covered_webs(135, 60, 10, 20) + [(10, tuple([(a, b) for a in range(5) for b in range(5, 10)]))]:
            if web[0] == 10:
                expect(self, BadLots, SINGLE, five_rings, web, SINGLE)
                self.assertIs(whole_holds(web, (1,) * len(web[1]), ("five", SINGLE, (0, 1, 2, 3, 4))), False)
        # These make it the Petersen web, but are not tight.
        lots = SINGLE[:9] + ((9, 10, 11),)
        self.assertIs(is_petersen(slow_between(CUT_PETERSEN, lots)), True)
        expect(self, BadLots, lots, five_rings, CUT_PETERSEN, lots)
        self.assertIs(whole_holds(CUT_PETERSEN, (1,) * 18, ("five", lots, (0, 1, 2, 3, 4))), False)


class TestHolds(unittest.TestCase):
    def test_all_fives(self):
        chance = random.Random(134)
        for web in (PETERSEN, SPLIT_PETERSEN, TIED_PETERSEN):
            weights = tuple([chance.randint(-5, 5) for _ in web[1]])
            for lots in five_lots(web):
                for ring in combinations(range(10), 5):
                    paper = ("five", lots, ring)
                    right = is_slow_ring(web, lots, ring) and slow_ring_sum(web, weights, lots, ring) % 2 == 1
                    self.assertIs(whole_holds(web, weights, paper), right, (web, paper))
                    self.assertIs(whole_holds(web, weights, ("five", lots, ring[::-1])), False)
                    self.assertIs(whole_holds(web, weights, ("five", lots, ring[:4])), False)
                # There are rings of six as well, whose places are tied to just two others each.
                for many in (3, 4, 6, 8, 9, 10):
                    for ring in list(combinations(range(10), many))[::1 if many == 6 else 29]:
                        self.assertIs(whole_holds(web, weights, ("five", lots, ring)), False)

    def test_sums_within_a_lot(self):
        # Weights within a lot of three places and between the same two lots count as they should.
        web = TIED_PETERSEN
        lots = ((0, 10, 11),) + SINGLE[1:]
        ring = (0, 1, 2, 3, 4)
        for number, ends in enumerate(web[1]):
            weights = tuple([int(at == number) for at in range(20)])
            names = [0 if place in (10, 11) else place for place in ends]
            right = names[0] != names[1] and names[0] in ring and names[1] in ring
            self.assertIs(whole_holds(web, weights, ("five", lots, ring)), right, ends)

    def test_wrong_papers(self):
        ones = (1,) * 15
        good = ("five", SINGLE, (0, 1, 2, 3, 4))
        for value in list(ODD_VALUES) + twisted(good) + [good[:2], good + ((),), ("five", (0, 1, 2, 3, 4), SINGLE),
                                                         ("five", SINGLE, (0, 1, 2, 3, 10)), ("five", SINGLE, ()),
                                                         ("five", SINGLE, (0, 1, 2, 3, 3)), ("Five",) + good[1:]]:
            self.assertIs(whole_holds(PETERSEN, ones, value), False, value)
        self.assertIs(whole_holds(PETERSEN, (2,) * 15, good), False)
        self.assertIs(whole_holds(PETERSEN, (-1,) * 15, good), True)
        self.assertIs(whole_holds(PETERSEN, (0,) * 15, ("five", (), ())), False)
        terms = (((0, 3), 2), ((1, 2), -1))
        self.assertIs(whole_holds(SQUARE, (2, -1, -1, 2), ("whole", terms)), True)
        for value in list(ODD_VALUES) + [("whole", terms[::-1]), ("whole", terms[:1]), ("whole", 1, terms), ("sums", 1, terms),
                                         ("whole", terms + terms[1:]), ("cuts", (0,), (1,)), ["whole", terms],
                                         ("whole", list(terms)), ("whole", (((0, 3), 1), ((0, 3), 1), ((1, 2), -1)))]:
            self.assertIs(whole_holds(SQUARE, (2, -1, -1, 2), value), False, value)
        for value in twisted(("whole", terms)):
            self.assertIs(whole_holds(SQUARE, (2, -1, -1, 2), value), False, value)
        self.assertIs(whole_holds(SQUARE, (1, 0, 0, 0), ("cuts", (0,), (1, 2, 3))), False)
        self.assertIs(whole_holds(SQUARE, (1, 0, 0, 0), ("cuts", (0,), (0, 1, 3))), True)
        self.assertIs(whole_holds(SQUARE, (1, 0, 0, 0), ("cuts", (0,), (0, 1, 2, 3))), False)
        self.assertIs(whole_holds(SQUARE, (1, 0, 0, 0), ("cuts", (0,), ())), False)

    def test_errors(self):
        for call, more in ((judge_whole, ()), (whole_holds, (None,))):
            expect_bad_webs(self, BadWeb, call, (), *more)
            expect_bad_webs(self, BadWeb, call, [], *more)
            for value in ODD_VALUES + ((1, 2, 3), (1,) * 5, [1] * 4, (1, 1, 1, True), (1, 1, 1, "1")):
                expect(self, BadWeights, value, call, SQUARE, value, *more)


if __name__ == "__main__":
    unittest.main()
