"""Weights, rows, terms and totals [8.1], the span [8.2], what one taking tells [8.3], independent pairings [8.4]."""

import random
import unittest

from helpers import (BIG_RING, COVERED, CUBE, DOUBLE_PETERSEN, FULL, HEXAGON, LADDER, LENS, NOT_WEBS, ODD_VALUES, ONE,
                     PETERSEN, SPLIT_PETERSEN, SQUARE, THICK_RING, TIED_PETERSEN, TRIANGLE, TWIN, WEBS, all_lots, covered_webs, expect,
                     expect_bad_webs, is_slow_terms, quick_pairings, random_webs, slow_rank, slow_sum, slow_tight,
                     slow_total, twisted)
from oncecrossed.errors import BadPairing, BadTerms, BadWeb, BadWeights
from oncecrossed.spans import (Steps, are_independent, independent, judge_span, row_of, span_holds, span_number,
                               total)
from oncecrossed.takings import lots_of, piece_numbers, taking

HUGE = 10 ** 99


def rows_of(web):
    """The rows of all pairings."""
    return [slow_total(web, ((row, 1),)) for row in quick_pairings(web)]


def slow_holds(web, weights, paper):
    """Whether a certificate of the right form is right."""
    if paper[0] == "cuts":
        tight = [0 < len(lot) < web[0] and slow_tight(web, lot) for lot in paper[1:]]
        return all(tight) and slow_sum(web, weights, paper[1]) != slow_sum(web, weights, paper[2])
    right = tuple([paper[1] * weight for weight in weights])
    return paper[1] != 0 and is_slow_terms(web, paper[2]) and slow_total(web, paper[2]) == right


def some_weights(web, chance):
    """Weights of many kinds: whole sums of pairings, others near them, and any."""
    rows = quick_pairings(web)
    ones = [(chance.choice(rows), chance.choice((1, 2, -1, chance.randint(-99999, 99999)))) for _ in range(4)]
    made = list(slow_total(web, dict(ones).items()))
    found = [tuple(made), (0,) * len(made), (1,) * len(made), (-1000000,) * len(made)]
    made[chance.randrange(len(made))] += chance.choice((1, -1, 2))
    found.append(tuple(made))
    made[chance.randrange(len(made))] -= chance.choice((1, -1, 2))
    found.append(tuple(made))
    return found + [tuple([chance.randint(-3, 3) for _ in made])]


class TestTotals(unittest.TestCase):
    def test_known(self):
        self.assertEqual(row_of(web=SQUARE, pairing=(0, 3)), (1, 0, 0, 1))
        self.assertEqual(total(web=SQUARE, terms=(((0, 3), 2), ((1, 2), -1))), (2, -1, -1, 2))
        self.assertEqual(total(SQUARE, ()), (0, 0, 0, 0))
        self.assertEqual(total(ONE, ()), ())
        self.assertEqual(total(TRIANGLE, ()), (0, 0, 0))
        self.assertEqual(total(TWIN, (((0,), HUGE), ((1,), -HUGE))), (HUGE, -HUGE))

    def test_against_the_definition(self):
        chance = random.Random(110)
        for web in list(WEBS) + list(COVERED) + random_webs(111, 60, 6, 14):
            rows = quick_pairings(web)
            for row in rows[:40]:
                self.assertEqual(row_of(web, row), tuple([int(number in row) for number in range(len(web[1]))]))
            some = sorted(chance.sample(rows, min(len(rows), 5)))
            terms = tuple([(row, chance.choice((-3, 1, HUGE))) for row in some])
            self.assertEqual(total(web, terms), slow_total(web, terms))

    def test_bad_values(self):
        for value in NOT_WEBS:
            expect(self, BadWeb, value, row_of, value, (0,))
            expect(self, BadWeb, value, total, value, ())
            expect(self, BadWeb, value, total, value, None)
        for value in list(ODD_VALUES) + twisted((0, 3)) + [(0, 1), (3, 0), (0, 3, 3)]:
            if repr(value) != "(0, 3)":
                expect(self, BadPairing, value, row_of, SQUARE, value)
        expect(self, BadPairing, (), row_of, ONE, ())
        good = (((0, 3), 2), ((1, 2), -1))
        for value in list(ODD_VALUES) + twisted(good) + [good[::-1], good[:1] * 2, (((0, 3), 0),), (((0, 3), True),),
                                                         (((0, 3), 1), ((0, 3), 2)), (((0, 1), 2),), ((0, 3), 2),
                                                         ((2, (0, 3)),), (((0, 3), 2, 1),)]:
            if value not in ((), (((0, 3), 99), good[1]), (((0, 3), -1), good[1]), (good[0], ((1, 2), 99)), good[:1],
                             good[1:]):
                expect(self, BadTerms, value, total, SQUARE, value)
        expect(self, BadTerms, (((), 1),), total, ONE, (((), 1),))


class TestSpan(unittest.TestCase):
    def test_against_fractions(self):
        chance = random.Random(112)
        kinds = {"sums": 0, "cuts": 0}
        for web in list(COVERED) + covered_webs(113, 70, 10, 20):
            # TestIndependent tells that the rank of these rows is that of all rows.
            rows = [slow_total(web, ((row, 1),)) for row in independent(web)]
            for weights in some_weights(web, chance):
                paper = judge_span(web, weights)
                kinds[paper[0]] += 1
                self.assertEqual(paper[0] == "sums", slow_rank(rows + [weights]) == len(rows), (web, weights))
                self.assertTrue(slow_holds(web, weights, paper), (web, weights, paper))
                self.assertIs(span_holds(web, weights, paper), True)
        self.assertGreater(min(kinds.values()), 100)

    def test_great_webs(self):
        chance = random.Random(114)
        for web in (BIG_RING, LADDER, THICK_RING, DOUBLE_PETERSEN, TIED_PETERSEN) + tuple(covered_webs(115, 25, 12, 30)):
            for weights in some_weights(web, chance):
                paper = judge_span(web, weights)
                self.assertTrue(slow_holds(web, weights, paper), (web, weights, paper))
                self.assertIs(span_holds(web, weights, paper), True)
                if paper[0] == "sums":
                    self.assertLess(max([abs(many) for _, many in paper[2]] + [0]), 10 ** 15)

    def test_one_taking_tells(self):
        chance = random.Random(116)
        for web in [web for web in COVERED if len(quick_pairings(web)) < 60] + covered_webs(117, 40, 10, 16):
            lots = [(place,) for place in range(web[0])] + list(lots_of(web, taking(web)))
            for weights in some_weights(web, chance):
                equal = len({slow_sum(web, weights, lot) for lot in lots}) == 1
                self.assertEqual(judge_span(web, weights)[0] == "sums", equal, (web, weights))

    def test_known(self):
        self.assertEqual(judge_span(web=SQUARE, weights=(1, 2, 2, 1))[0], "sums")
        self.assertEqual(judge_span(TWIN, (5, -7))[1:], (1, (((0,), 5), ((1,), -7))))
        self.assertEqual(judge_span(TWIN, (0, 0)), ("sums", 1, ()))
        # Two lots, none of them one place alone: all stars have equal sums, the inner tight lot has not.
        weights = tuple([2 if ends in ((0, 1),) else 1 for ends in LENS[1]])
        self.assertEqual(judge_span(LENS, weights)[0], "cuts")
        self.assertIs(span_holds(web=SQUARE, weights=(1, 0, 0, 0), thing=("cuts", (0,), (2,))), True)

    def test_inner_lots_alone_tell(self):
        # Equal sums over all stars, but not over the cut of (0, 1, 2).
        weights = (1, 0, 0, 1, 0, 1)
        self.assertEqual({slow_sum(HEXAGON, weights, (place,)) for place in range(6)}, {1})
        other = (2, 1, 1, 2, 1, 2)
        self.assertEqual(judge_span(HEXAGON, other)[0], "sums")
        web = (6, ((0, 1), (0, 2), (0, 3), (0, 4), (0, 5), (1, 2), (1, 3), (1, 4), (1, 5), (2, 3), (4, 5)))
        weights = (-2, 2, 2, 1, 1, 1, 1, 2, 2, 1, 1)
        sums = {slow_sum(web, weights, (place,)) for place in range(6)}
        self.assertEqual(sums, {4})
        paper = judge_span(web, weights)
        self.assertEqual(paper[0], "cuts")
        self.assertTrue(slow_holds(web, weights, paper))
        self.assertIn(3, [len(lot) for lot in paper[1:]])


class TestSteps(unittest.TestCase):
    def test_whole_sums(self):
        steps = Steps(2)
        self.assertIs(steps.put([6, 0]), True)
        self.assertIs(steps.put([-12, 0]), False)
        self.assertIs(steps.put([4, 0]), True)
        self.assertIs(steps.put([2, 0]), False)
        self.assertIs(steps.put([3, 3]), True)
        self.assertIs(steps.put([1, 3]), False)
        self.assertIs(steps.put([0, 6]), False)
        self.assertIs(steps.put([2, 3]), True)
        self.assertIs(steps.put([0, 0]), False)
        self.assertEqual(sorted(steps.rows), [0, 1])
        steps = Steps(2)
        told = [steps.put(row) for row in ([2, 0], [0, 1], [1, 1], [7, 7])]
        self.assertEqual(told, [True, True, True, False])

    def test_multiples(self):
        # Of 6 and 4 in the first column comes 2; the integers behind tell how.
        steps = Steps(1)
        for row in ([6, 1, 0], [4, 0, 1]):
            steps.put(row)
        for first, times in ((2, 1), (8, 1), (-10, 1), (3, 2), (7, 2), (0, 1)):
            found, left = steps.made([first, 0, 0])
            self.assertEqual(found, times, first)
            self.assertEqual(-6 * left[1] - 4 * left[2], times * first)
            self.assertEqual(left[0], 0)
        steps = Steps(2)
        for row in ([2, 0, 1, 0], [1, 3, 0, 1]):
            steps.put(row)
        for row, times in (([1, 0], 2), ([0, 1], 6), ([3, 3], 1), ([1, 1], 3), ([0, 2], 3)):
            found, left = steps.made(row + [0, 0])
            self.assertEqual(found, times, row)
            self.assertEqual([-2 * left[2] - left[3], -3 * left[3]], [times * item for item in row])


class TestHolds(unittest.TestCase):
    def test_all_pairs_of_lots(self):
        for web, weights in ((SQUARE, (1, 0, 0, 0)), (SQUARE, (1, 2, 2, 1)), (HEXAGON, (1, 2, 3, 4, 5, 6)),
                             (LENS, (-2, 2, 2, 1, 1, 1, 1, 2, 2, 1, 1))):
            for one in all_lots(web):
                for other in all_lots(web):
                    paper = ("cuts", one, other)
                    self.assertIs(span_holds(web, weights, paper), slow_holds(web, weights, paper), (web, paper))

    def test_terms(self):
        weights = (2, -1, -1, 2)
        terms = (((0, 3), 2), ((1, 2), -1))
        self.assertIs(span_holds(SQUARE, weights, ("sums", 1, terms)), True)
        for many in (-1, 2, HUGE):
            more = tuple([(row, many * item) for row, item in terms])
            self.assertIs(span_holds(SQUARE, weights, ("sums", many, more)), True)
            self.assertIs(span_holds(SQUARE, weights, ("sums", -many, more)), False)
        for paper in (("sums", 0, ()), ("sums", 0, terms), ("sums", True, terms), ("sums", 2, terms), ("sums", 1, ()),
                      ("sums", 1, terms[:1]), ("sums", 1, terms[::-1]), ("sums", 1, list(terms)),
                      ("sums", 1, terms[:1] + (((0, 3), 0),) + terms[1:]), ("sums", 1, (((0, 3), 1),) * 2 + terms[1:]),
                      ("whole", terms), ("sums", terms), ["sums", 1, terms], ("sums", "1", terms)):
            self.assertIs(span_holds(SQUARE, weights, paper), False, paper)
        self.assertIs(span_holds(SQUARE, (0,) * 4, ("sums", 0, ())), False)
        self.assertIs(span_holds(SQUARE, (0,) * 4, ("sums", -5, ())), True)

    def test_wrong_papers(self):
        for value in ODD_VALUES:
            self.assertIs(span_holds(SQUARE, (1, 0, 0, 0), value), False, value)
            self.assertIs(span_holds(SQUARE, (1, 2, 2, 1), value), False, value)
        for web, weights, paper in ((SQUARE, (3, -1, -1, 3), ("sums", 1, (((0, 3), 3), ((1, 2), -1)))),
                                    (SQUARE, (2, 0, 1, 0), ("cuts", (0,), (1, 2, 3)[1:2])),
                                    (LENS, (-2, 2, 2, 1, 1, 1, 1, 2, 2, 1, 1), ("cuts", (0, 2, 3), (5,)))):
            self.assertIs(span_holds(web, weights, paper), slow_holds(web, weights, paper), paper)
            for value in twisted(paper):
                self.assertIs(span_holds(web, weights, value), False, (web, value))

    def test_errors(self):
        for call, more in ((judge_span, ()), (span_holds, (None,))):
            expect_bad_webs(self, BadWeb, call, (), *more)
            expect_bad_webs(self, BadWeb, call, None, *more)
            for value in ODD_VALUES + ((1, 2, 3), (1,) * 5, [1] * 4, (1, 1, 1, True), (1, 1, 1, None), (1, 1, 1, "1"),
                                       ((1,),) * 4, (False,) * 4, {0: 1, 1: 1, 2: 1, 3: 1}, "1111"):
                expect(self, BadWeights, value, call, SQUARE, value, *more)


class TestIndependent(unittest.TestCase):
    def test_numbers(self):
        for web in list(COVERED) + covered_webs(118, 90, 12, 24):
            many = len(web[1]) - web[0] + 2 - piece_numbers(web)[0]
            self.assertEqual(span_number(web=web), many, web)
            found = independent(web=web)
            self.assertEqual((len(found), list(found)), (many, sorted(set(found))), web)
            self.assertLessEqual(set(found), set(quick_pairings(web)))
            self.assertEqual(slow_rank([slow_total(web, ((row, 1),)) for row in found]), many)
            self.assertIs(are_independent(web, found), True)
            if len(quick_pairings(web)) <= 60:
                self.assertEqual(slow_rank(rows_of(web)), many)

    def test_known(self):
        for web, many in ((TWIN, 2), ((2, ((0, 1),) * 30), 30), (SQUARE, 2), (FULL, 3), (LENS, 5), (PETERSEN, 6),
                          (HEXAGON, 2), (CUBE, 6), (SPLIT_PETERSEN, 6), (TIED_PETERSEN, 8)):
            self.assertEqual(span_number(web), many)

    def test_any_pairings(self):
        chance = random.Random(119)
        met = {True: 0, False: 0}
        for web in [web for web in COVERED if len(web[1]) < 20] + covered_webs(120, 40, 8, 16):
            rows = quick_pairings(web)
            for many in range(min(len(rows), 12)):
                some = tuple(chance.sample(rows, many))
                right = slow_rank([slow_total(web, ((row, 1),)) for row in some]) == many
                met[right] += 1
                self.assertIs(are_independent(web, some), right, (web, some))
        self.assertGreater(min(met.values()), 30)
        self.assertIs(are_independent(web=SQUARE, ones=((1, 2), (0, 3))), True)
        self.assertIs(are_independent(SQUARE, ((1, 2), (1, 2))), False)
        self.assertIs(are_independent(SQUARE, ()), True)
        self.assertIs(are_independent(PETERSEN, quick_pairings(PETERSEN)), True)
        self.assertIs(are_independent(CUBE, quick_pairings(CUBE)), False)

    def test_errors(self):
        expect_bad_webs(self, BadWeb, independent)
        expect_bad_webs(self, BadWeb, span_number)
        expect_bad_webs(self, BadWeb, are_independent, ())
        expect_bad_webs(self, BadWeb, are_independent, None)
        for value in ODD_VALUES:
            if repr(value) != "(0, 3)":
                expect(self, BadPairing, value, are_independent, SQUARE, ((0, 3), (0, 3), value))
                expect(self, BadPairing, value, are_independent, SQUARE, (value, None, "x"))
            if not isinstance(value, tuple):
                expect(self, BadPairing, value, are_independent, SQUARE, value)
        for value in ([(0, 3)], {(0, 3): 1}, "03"):
            expect(self, BadPairing, value, are_independent, SQUARE, value)
        item = (True, 2)
        expect(self, BadPairing, item, are_independent, SQUARE, ((0, 3), item, 5))


if __name__ == "__main__":
    unittest.main()
