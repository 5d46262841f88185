"""Mixes [10.1] and even webs [10.2]."""

import random
import unittest
from itertools import combinations, product

from helpers import (BARE, BIG_RING, COVERED, CUBE, CUT_PETERSEN, DOUBLE_PETERSEN, FULL, HEXAGON, LADDER, LINE, NOT_WEBS,
                     ODD_VALUES, ONE, PENTAGON, PETERSEN, PRISM, SQUARE, STAR, THICK_RING, THREES, TRIANGLE, TWIN, TWO_SQUARES,
                     TWO_TRIANGLES, WEBS, all_lots, covered_webs, expect, is_slow_terms, quick_pairings, random_webs,
                     slow_sum, slow_total, twisted)
from oncecrossed.errors import BadWeb, BadWeights
from oncecrossed.mixes import judge_even, judge_mix, mix_holds, parted

TWO = (6, ((0, 1), (0, 2), (1, 2), (2, 3), (3, 4), (3, 5), (4, 5)))
FULL_SIX = (6, tuple(combinations(range(6), 2)))
FULL_EIGHT = (8, tuple(combinations(range(8), 2)))
# A web beside the Petersen web, tied to it nowhere.
PETERSEN_AND_PAIR = (12, tuple(sorted(PETERSEN[1] + ((10, 11),) * 3)))


def slow_holds(web, weights, paper):
    """Whether a certificate of the right form is right."""
    if paper[0] == "below":
        return weights[paper[1]] < 0
    star = slow_sum(web, weights, (0,))
    if paper[0] == "stars":
        return paper[1] < paper[2] and slow_sum(web, weights, paper[1:2]) != slow_sum(web, weights, paper[2:])
    if paper[0] == "odd":
        return len(paper[1]) % 2 == 1 and slow_sum(web, weights, paper[1]) < star
    right = tuple([paper[1] * weight for weight in weights])
    fit = paper[1] > 0 and is_slow_terms(web, paper[2]) and all([many > 0 for _, many in paper[2]])
    return fit and slow_total(web, paper[2]) == right


def slow_parted(web, rows=None):
    """Whether a web consists of pairings, by all choices of a pairing that has its first tie."""
    rows = [set(row) for row in quick_pairings(web)] if rows is None else rows
    return any([slow_left(set(range(len(web[1]))), rows)])


def slow_left(left, rows):
    if not left:
        return True
    return any(slow_left(left - row, [other for other in rows if not other & row]) for row in rows if min(left) in row)


def some_weights(web, chance):
    """Weights of many kinds: sums of pairings, sums over webs that have no more than their stars, and others."""
    many = len(web[1])
    rows = [slow_total(web, ((row, 1),)) for row in quick_pairings(web)]
    found = [(0,) * many, (1,) * many, tuple([chance.randint(0, 2) for _ in range(many)])]
    for _ in range(3 if rows else 0):
        made = [0] * many
        for _ in range(chance.randint(1, 6)):
            times = chance.choice((1, 1, 3, chance.randint(0, 100000)))
            made = [item + times * more for item, more in zip(made, chance.choice(rows))]
        found.append(tuple(made))
        if many:
            made[chance.randrange(many)] += chance.choice((1, -1))
            found.append(tuple(made))
    return found


def ringed_weights(web, chance, many):
    """Weights of a full web with equal sums over all stars: rings of all places, and some pairings beside them."""
    at = chance.sample(range(web[0]), web[0])
    pairs = []
    for size in {6: (3, 3), 8: chance.choice(((3, 5), (3, 3, 2)))}[web[0]]:
        ring, at = at[:size], at[size:]
        pairs.extend([tuple(sorted([ring[k], ring[(k + 1) % size]])) for k in range(size)])
    weights = [pairs.count(ends) for ends in web[1]]
    for row in chance.choices(quick_pairings(web), k=many):
        weights = [weight + (number in row) for number, weight in enumerate(weights)]
    return tuple(weights)


class TestMixes(unittest.TestCase):
    def test_judged(self):
        chance = random.Random(140)
        kinds = {"mix": 0, "below": 0, "stars": 0, "odd": 0}
        webs = [web for web in WEBS if web[0] > 1 and len(web[1]) <= 30] + list(COVERED) + [TWO, PETERSEN_AND_PAIR]
        webs += [web for web in random_webs(141, 200, 7, 14) if web[0] > 1] + covered_webs(142, 40, 12, 24)
        for web in webs:
            for weights in some_weights(web, chance):
                paper = judge_mix(web, weights)
                kinds[paper[0]] += 1
                self.assertTrue(slow_holds(web, weights, paper), (web, weights, paper))
                self.assertIs(mix_holds(web, weights, paper), True, (web, weights, paper))
        self.assertGreater(min(kinds.values()), 5, kinds)

    def test_odd_lots(self):
        # Cubic webs with cuts of one tie, or rings of three and five places, have too little somewhere.
        ring_of_five = tuple([(a, (a + 1)) for a in range(4)] + [(0, 4)])
        two = (10, tuple(sorted(ring_of_five + tuple([(a + 5, b + 5) for a, b in ring_of_five]) + ((0, 5),))))
        for web, weights in ((TWO, (1, 1, 1, 0, 1, 1, 1)), (TWO_TRIANGLES, (1,) * 6), (PRISM, (1, 1, 0, 1, 0, 0, 1, 1, 1)),
                             (two, tuple([0 if ends == (0, 5) else 7 for ends in two[1]]))):
            paper = judge_mix(web, weights)
            self.assertEqual(paper[0], "odd", web)
            self.assertTrue(slow_holds(web, weights, paper))
        chance = random.Random(148)
        kinds = {"odd": 0, "mix": 0}
        for web, many in product((FULL_SIX, FULL_EIGHT), (0, 0, 1, 1, 2, 4, 8) * 6):
            weights = ringed_weights(web, chance, many)
            paper = judge_mix(web, weights)
            kinds[paper[0]] += 1
            self.assertTrue(slow_holds(web, weights, paper), (web, weights, paper))
        self.assertGreater(min(kinds.values()), 15)
        for web, weights in ((TRIANGLE, (1, 1, 1)), (PENTAGON, (4,) * 5)):
            paper = judge_mix(web, weights)
            self.assertEqual(paper[0], "odd")
            self.assertTrue(slow_holds(web, weights, paper))

    def test_known(self):
        self.assertEqual(judge_mix(web=FULL, weights=(2, 1, 0, 0, 1, 2)), ("mix", 1, (((0, 5), 2), ((1, 4), 1))))
        self.assertEqual(judge_mix(TWIN, (0, 4)), ("mix", 1, (((1,), 4),)))
        self.assertEqual(judge_mix(SQUARE, (0, -1, 2, 0))[0], "below")
        self.assertEqual(judge_mix(SQUARE, (1, 0, 0, 0)), ("stars", 0, 2))
        for web in ((3, ()), (2, ()), BARE, (11, ())):
            paper = judge_mix(web, ())
            self.assertEqual((paper[0], paper[2]), ("mix", ()))
        self.assertEqual(judge_mix(TRIANGLE, (0, 0, 0))[0], "mix")
        self.assertIs(mix_holds(web=FULL, weights=(2, 1, 0, 0, 1, 2), thing=("mix", 1, (((0, 5), 2), ((1, 4), 1)))), True)
        self.assertIs(mix_holds((3, ()), (), ("mix", 7, ())), True)

    def test_many_pairings(self):
        chance = random.Random(143)
        thick = (4, tuple(sorted(FULL[1] * 5)))
        webs = [BIG_RING, LADDER, THICK_RING, DOUBLE_PETERSEN, FULL_EIGHT, thick, (2, ((0, 1),) * 30), (6, tuple(sorted(FULL_SIX[1] * 2)))]
        for web in webs:
            rows = quick_pairings(web)
            self.assertEqual(len(rows) == 1736, web is THICK_RING)
            for many in (1, 5, 60):
                some = [(row, chance.randint(1, 10000)) for row in chance.sample(rows, min(many, len(rows)))]
                weights = slow_total(web, some)
                paper = judge_mix(web, weights)
                self.assertEqual(paper[0], "mix")
                self.assertTrue(slow_holds(web, weights, paper), (web, weights))

    def test_shares_that_cuts_bound(self):
        # Here so much of a pairing may be left to be taken that a cut of three ties or more has just enough.
        chance = random.Random(149)
        met = set()
        for web in (PETERSEN, CUT_PETERSEN, FULL_SIX, FULL_EIGHT, DOUBLE_PETERSEN, BIG_RING):
            rows = quick_pairings(web)
            for _ in range(60):
                some = [(row, chance.choice((1, 1, 2, 3, 50))) for row in chance.sample(rows, chance.randint(1, 6))]
                weights = slow_total(web, some)
                paper = judge_mix(web, weights)
                met.add(paper[:2])
                self.assertTrue(slow_holds(web, weights, paper), (web, weights, paper))
        self.assertEqual(met, {("mix", 1), ("mix", 2)})

    def test_halves(self):
        # Half of what two pairings have: a share of a half of each has to be told with m = 2, or otherwise.
        self.assertTrue(slow_holds(PETERSEN, (1,) * 15, judge_mix(PETERSEN, (1,) * 15)))
        self.assertEqual(judge_mix(PETERSEN, (1,) * 15)[:2], ("mix", 2))
        self.assertEqual(judge_mix(PETERSEN, (2,) * 15)[:2], ("mix", 1))


class TestHolds(unittest.TestCase):
    def test_all_lots_and_stars(self):
        chance = random.Random(144)
        for web in (SQUARE, TWO, TRIANGLE, PRISM, (3, ()), LINE, STAR, PENTAGON):
            for _ in range(8):
                weights = tuple([chance.randint(-1, 2) for _ in web[1]])
                for lot in all_lots(web):
                    paper = ("odd", lot)
                    self.assertIs(mix_holds(web, weights, paper), slow_holds(web, weights, paper), (web, weights, paper))
                for one, other in product(range(web[0]), repeat=2):
                    paper = ("stars", one, other)
                    self.assertIs(mix_holds(web, weights, paper), slow_holds(web, weights, paper), (web, weights, paper))
                for number in range(len(web[1])):
                    paper = ("below", number)
                    self.assertIs(mix_holds(web, weights, paper), slow_holds(web, weights, paper), (web, weights, paper))

    def test_terms(self):
        weights = (2, 1, 0, 0, 1, 2)
        terms = (((0, 5), 2), ((1, 4), 1))
        for many in (1, 3, 10 ** 98):
            more = tuple([(row, many * item) for row, item in terms])
            self.assertIs(mix_holds(FULL, weights, ("mix", many, more)), True)
            self.assertIs(mix_holds(FULL, weights, ("mix", many + 1, more)), False)
        negative = (((0, 5), -1), ((1, 4), 1))
        self.assertIs(mix_holds(FULL, (-1, 1, 0, 0, 1, -1), ("mix", 1, negative)), False)
        for paper in (("mix", 0, ()), ("mix", True, terms), ("mix", -1, tuple([(row, -item) for row, item in terms])),
                      ("mix", 1, terms[::-1]), ("mix", 1, terms[:1]), ("mix", 1, terms + terms[1:]), ["mix", 1, terms],
                      ("mix", 1, list(terms)), ("mix", terms), ("sums", 1, terms), ("whole", terms)):
            self.assertIs(mix_holds(FULL, weights, paper), False, paper)
        self.assertIs(mix_holds(FULL, (0,) * 6, ("mix", 0, ())), False)
        self.assertIs(mix_holds(FULL, (0,) * 6, ("mix", -1, ())), False)
        self.assertIs(mix_holds(FULL, (0,) * 6, ("mix", 1, ())), True)
        # A share below 0 beside others, although the total is right.
        mixed = (((0, 10, 18), 1),)
        self.assertIs(mix_holds(CUBE, (1,) * 12, ("mix", 1, mixed)), False)

    def test_share_below_0(self):
        rows = quick_pairings(FULL_SIX)
        for row, one, other in combinations(rows, 3):
            terms = tuple(sorted([(row, 2), (one, 1), (other, -1)]))
            weights = slow_total(FULL_SIX, terms)
            self.assertIs(mix_holds(FULL_SIX, weights, ("mix", 1, terms)), False)
            break
        self.assertEqual(len(rows), 15)

    def test_wrong_papers(self):
        weights = (2, 1, 0, 0, 1, 2)
        good = ("mix", 1, (((0, 5), 2), ((1, 4), 1)))
        for value in list(ODD_VALUES) + twisted(good):
            self.assertIs(mix_holds(FULL, weights, value), False, value)
        for web, less, paper in ((SQUARE, (0, -1, 2, 0), ("below", 1)), (SQUARE, (1, 1, 0, 0), ("stars", 0, 1)),
                                 (TWO, (1, 1, 1, 0, 1, 1, 1), ("odd", (0, 1, 2))), (TRIANGLE, (1, 1, 1), ("odd", (0, 1, 2)))):
            self.assertIs(mix_holds(web, less, paper), True, paper)
            for value in twisted(paper):
                self.assertIs(mix_holds(web, less, value), False, (web, value))
        for value in (("below", 4), ("below", -1), ("below", True), ("below", (1,)), ("below", 1, 1), ("below",)):
            self.assertIs(mix_holds(SQUARE, (0, -1, 2, -1), value), False, value)
        for value in (("stars", 1, 0), ("stars", 0, 0), ("stars", 0, 4), ("stars", -1, 1), ("stars", 0, True)):
            self.assertIs(mix_holds(SQUARE, (1, 1, 0, 0), value), False, value)

    def test_errors(self):
        for value in list(NOT_WEBS) + [ONE]:
            for call, more in ((judge_mix, ((),)), (judge_mix, (None,)), (mix_holds, ((), None)), (judge_even, ()),
                               (parted, ()), (mix_holds, (None, None))):
                expect(self, BadWeb, value, call, value, *more)
        for value in ODD_VALUES + ((1, 2, 3), (1,) * 5, [1] * 4, (1, 1, 1, True), (1, 1, 1, "1")):
            expect(self, BadWeights, value, judge_mix, SQUARE, value)
            expect(self, BadWeights, value, mix_holds, SQUARE, value, ("mix", 1, ()))


class TestEven(unittest.TestCase):
    def test_judged(self):
        self.assertEqual(judge_even(web=PETERSEN)[0], "mix")
        for web in (FULL, SQUARE, PRISM, THREES, CUBE, FULL_SIX, TWO_SQUARES, PETERSEN, PETERSEN_AND_PAIR, (3, ()), BARE):
            self.assertEqual(judge_even(web)[0], "mix", web)
        for web, kind in ((TRIANGLE, "odd"), (TWO_TRIANGLES, "odd"), (LINE, "stars"), (STAR, "stars"), (TWO, "stars")):
            self.assertEqual(judge_even(web)[0], kind, web)
        for web in [web for web in list(WEBS) + random_webs(145, 150, 6, 9) if web[0] > 1 and len(web[1]) <= 30]:
            self.assertTrue(slow_holds(web, (1,) * len(web[1]), judge_even(web)))

    def test_what_even_webs_have(self):
        met = 0
        for web in list(COVERED) + [web for web in random_webs(146, 4000, 6, 9) if web[0] > 1]:
            if judge_even(web)[0] == "mix":
                met += 1
                sums = {slow_sum(web, (1,) * len(web[1]), (place,)) for place in range(web[0])}
                self.assertEqual(len(sums), 1)
                for lot in all_lots(web):
                    if len(lot) % 2:
                        self.assertGreaterEqual(slow_sum(web, (1,) * len(web[1]), lot), min(sums))
                self.assertEqual({at for row in quick_pairings(web) for at in row}, set(range(len(web[1]))))
        self.assertGreater(met, 60)


class TestParted(unittest.TestCase):
    def check(self, web, found):
        rows = quick_pairings(web)
        self.assertEqual(list(found), sorted(found))
        self.assertLessEqual(set(found), set(rows))
        self.assertEqual(sorted([number for row in found for number in row]), list(range(len(web[1]))))

    def test_known(self):
        self.assertEqual(parted(web=FULL), ((0, 5), (1, 4), (2, 3)))
        self.assertEqual(parted((3, ())), ())
        self.assertEqual(parted((2, ())), ())
        self.assertEqual(parted((2, ((0, 1),) * 3)), ((0,), (1,), (2,)))
        for web in (PETERSEN, PETERSEN_AND_PAIR, TRIANGLE, TWO_TRIANGLES, LINE, STAR, TWO):
            self.assertIsNone(parted(web), web)
        thick = (4, tuple(sorted(FULL[1] * 5)))
        for web in (PRISM, THREES, CUBE, FULL_SIX, FULL_EIGHT, DOUBLE_PETERSEN, TWO_SQUARES, HEXAGON, BIG_RING,
                    CUT_PETERSEN, thick, (2, ((0, 1),) * 30), (6, tuple(sorted(FULL_SIX[1] * 2)))):
            found = parted(web)
            if web is CUT_PETERSEN:
                self.assertIsNone(found)
            else:
                self.check(web, found)

    def test_petersen_with_pairings_doubled(self):
        for many in (1, 2):
            for some in combinations(quick_pairings(PETERSEN), many):
                ties = PETERSEN[1] + tuple([PETERSEN[1][number] for row in some for number in row])
                web = (10, tuple(sorted(ties)))
                self.assertEqual(judge_even(web)[0], "mix")
                self.assertIsNone(parted(web))

    def test_against_all_choices(self):
        chance = random.Random(147)
        met = {True: 0, False: 0}
        for _ in range(300):
            places = chance.choice((2, 4, 6, 8))
            ends = [place for place in range(places) for _ in range(chance.randint(1, 4) if places < 6 else 3)]
            chance.shuffle(ends)
            pairs = [tuple(sorted(ends[at:at + 2])) for at in range(0, len(ends) - 1, 2)]
            web = (places, tuple(sorted([pair for pair in pairs if pair[0] != pair[1]])))
            found = parted(web)
            right = slow_parted(web)
            met[right] += 1
            self.assertEqual(found is not None, right, web)
            if right:
                self.check(web, found)
        self.assertGreater(min(met.values()), 20)


if __name__ == "__main__":
    unittest.main()
