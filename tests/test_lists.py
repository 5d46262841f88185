"""Lists of webs [7.2], and the Petersen web of [7.3]."""

import random
import unittest
from itertools import permutations, product

from helpers import (BIG_RING, COVERED, CUBE, CUT_PETERSEN, DOUBLE_PETERSEN, FULL, NOT_WEBS, ODD_VALUES, ONE, PENTAGON,
                     PETERSEN, PRISM, SPLIT_PETERSEN, SQUARE, THREES, TIED_PETERSEN, TRIANGLE, TWIN, WEBS, WHEEL, expect,
                     random_webs, slow_led, twisted)
from oncecrossed.errors import BadWeb, BadWebs
from oncecrossed.lists import is_petersen, judge_list, list_holds, petersen
from oncecrossed.webs import is_web

# Ten places round, each tied to the opposite one: it has as many ties at each place as the Petersen web.
TEN_ROUND = (10, tuple(sorted([(a, a + 1) for a in range(9)] + [(0, 9)] + [(a, a + 5) for a in range(5)])))


def slow_plain(web):
    """The web with each pair once."""
    return (web[0], tuple(sorted(set(web[1]))))


def slow_alike(one, other):
    """Whether two small webs are alike up to doubled ties, by all renamings."""
    one, other = slow_plain(one), slow_plain(other)
    return one[0] == other[0] and any([slow_led(one, row) == other for row in permutations(range(one[0]))])


def slow_one_list(ones, others):
    """Whether two tuples of small webs are one list, by all ways to pair them."""
    if len(ones) != len(others):
        return False
    alike = [[slow_alike(one, other) for other in others] for one in ones]
    return any([all([alike[at][to] for at, to in enumerate(row)]) for row in permutations(range(len(ones)))])


def slow_holds(ones, others, rows):
    """Whether rows of the right form are right."""
    if len(ones) != len(others) or len(rows) != len(ones) or len({position for position, _ in rows}) != len(rows):
        return False
    led = [slow_led(slow_plain(one), row[1]) for one, row in zip(ones, rows)]
    return led == [slow_plain(others[position]) for position, _ in rows]


class TestPetersen(unittest.TestCase):
    def test_known(self):
        self.assertEqual(petersen(), PETERSEN)
        self.assertIs(is_web(petersen()), True)
        for web in (PETERSEN, DOUBLE_PETERSEN, (10, tuple(sorted(PETERSEN[1] + PETERSEN[1][4:5] * 3)))):
            self.assertIs(is_petersen(web=web), True)
        for web in list(WEBS) + list(COVERED) + [TEN_ROUND, (10, PETERSEN[1][1:]), (12, PETERSEN[1]), (11, PETERSEN[1])]:
            self.assertIs(is_petersen(web), web in (PETERSEN, DOUBLE_PETERSEN), web)

    def test_called_otherwise(self):
        chance = random.Random(90)
        for _ in range(30):
            row = chance.sample(range(10), 10)
            doubled = (10, tuple(sorted(PETERSEN[1] + tuple(chance.sample(PETERSEN[1], 6)))))
            self.assertIs(is_petersen(slow_led(doubled, row)), True)
            a, b = chance.choice([(a, b) for a in range(10) for b in range(a) if (b, a) not in PETERSEN[1]])
            self.assertIs(is_petersen(slow_led((10, tuple(sorted(PETERSEN[1] + ((b, a),)))), row)), False)

    def test_bad_webs(self):
        for value in NOT_WEBS:
            expect(self, BadWeb, value, is_petersen, value)


class TestLists(unittest.TestCase):
    def test_known(self):
        self.assertEqual(judge_list(ones=(), others=()), ("one", ()))
        self.assertIsNone(judge_list((FULL, SQUARE), (SQUARE,)))
        self.assertIsNone(judge_list((), (ONE,)))
        self.assertIsNone(judge_list((FULL, SQUARE), (SQUARE, SQUARE)))
        self.assertIsNone(judge_list((FULL, FULL), (FULL, SQUARE)))
        self.assertEqual(judge_list((ONE,), (ONE,)), ("one", ((0, (0,)),)))
        self.assertIs(list_holds(ones=(), others=(), thing=("one", ())), True)
        self.assertIs(list_holds((FULL, SQUARE), (SQUARE, FULL), ("one", ((1, (0, 1, 2, 3)), (0, (1, 2, 3, 0))))), True)

    def test_against_the_definition(self):
        chance = random.Random(91)
        met = {True: 0, False: 0}
        pool = [ONE, TWIN, (2, ((0, 1),)), TRIANGLE, SQUARE, FULL] + random_webs(92, 12, 4, 8)
        for _ in range(400):
            ones = tuple([chance.choice(pool) for _ in range(chance.randint(0, 4))])
            others = [slow_led(web, chance.sample(range(web[0]), web[0])) for web in ones]
            if chance.random() < 0.5 and others:
                others[chance.randrange(len(others))] = chance.choice(pool)
            chance.shuffle(others)
            paper = judge_list(ones, tuple(others))
            right = slow_one_list(ones, others)
            met[right] += 1
            self.assertEqual(paper is not None, right, (ones, others))
            if right:
                self.assertTrue(slow_holds(ones, others, paper[1]))
                self.assertIs(list_holds(ones, tuple(others), paper), True)
        self.assertGreater(min(met.values()), 40)

    def test_great_lists(self):
        chance = random.Random(93)
        ones = (PETERSEN, CUT_PETERSEN, SPLIT_PETERSEN, TIED_PETERSEN, DOUBLE_PETERSEN, BIG_RING, TEN_ROUND, CUBE, WHEEL) * 4
        others = [slow_led(web, chance.sample(range(web[0]), web[0])) for web in ones]
        chance.shuffle(others)
        others = tuple(others)
        paper = judge_list(ones, others)
        self.assertTrue(slow_holds(ones, others, paper[1]))
        self.assertIs(list_holds(ones, others, paper), True)
        self.assertIsNone(judge_list(ones, others[1:] + (PRISM,)))
        many = judge_list((TWIN, SQUARE) * 120, (SQUARE, TWIN) * 120)
        self.assertEqual(sorted([position for position, _ in many[1]]), list(range(240)))

    def test_doubled_ties_do_not_matter(self):
        more = (4, ((0, 1),) * 5 + ((0, 3), (1, 2), (2, 3), (2, 3)))
        self.assertTrue(slow_holds((more,), (SQUARE,), judge_list((more,), (SQUARE,))[1]))
        self.assertIs(list_holds((SQUARE,), (more,), ("one", ((0, (1, 2, 3, 0)),))), True)

    def test_all_rows(self):
        for ones, others in (((TRIANGLE, TWIN), (TWIN, TRIANGLE)), ((SQUARE,), (slow_led(SQUARE, (0, 2, 1, 3)),)),
                             ((TWIN, TWIN), (TWIN, (2, ()))), ((TWIN, TWIN), ((2, ((0, 1),)), TWIN))):
            choices = [[(at, row) for at in range(len(others)) for row in permutations(range(web[0]))] for web in ones]
            for rows in product(*choices):
                right = slow_holds(ones, others, rows)
                self.assertIs(list_holds(ones, others, ("one", rows)), right, (ones, others, rows))

    def test_wrong_papers(self):
        ones, others = (FULL, SQUARE, TWIN), (SQUARE, TWIN, FULL)
        for value in ODD_VALUES:
            self.assertIs(list_holds(ones, others, value), False, value)
        paper = judge_list(ones, others)
        for value in twisted(paper):
            # A full web allows other renamings; these values have none of them.
            self.assertIs(list_holds(ones, others, value), False, value)
        self.assertIs(list_holds(ones, others, ("one", ((2, (3, 1, 0, 2)), (0, (0, 1, 2, 3)), (1, (1, 0))))), True)
        self.assertIs(list_holds(ones, others, ("one", ((2, (3, 1, 0, 2)), (0, (0, 2, 1, 3)), (1, (1, 0))))), False)
        self.assertIs(list_holds((TWIN, TWIN), (TWIN, TWIN), ("one", ((0, (0, 1)), (0, (0, 1))))), False)
        self.assertIs(list_holds((TWIN, TWIN), (TWIN, TWIN), ("one", ((1, (0, 1)), (0, (0, 1))))), True)
        self.assertIs(list_holds((TWIN,), (TWIN,), ("one", ((False, (0, 1)),))), False)
        self.assertIs(list_holds((TWIN,), (TWIN,), ("one", ((0, (False, True)),))), False)
        self.assertIs(list_holds((TWIN,), (TWIN, TWIN), ("one", ((0, (0, 1)),))), False)
        self.assertIs(list_holds((), (TWIN,), ("one", ())), False)
        self.assertIs(list_holds((TWIN,), (), ("one", ((0, (0, 1)),))), False)
        self.assertIs(list_holds((PENTAGON,), (FULL,), ("one", ((0, (0, 1, 2, 3)),))), False)
        self.assertIs(list_holds((THREES,), (THREES,), ("one", ((0, (3, 5, 4, 1, 2, 0)),))), True)

    def test_bad_lists(self):
        for value in list(NOT_WEBS) + [FULL, [FULL], (FULL, None), (FULL, SQUARE, (2, ((1, 0),)))]:
            bad = value if value != () else (None,)
            for call, more in ((judge_list, ()), (list_holds, (None,))):
                expect(self, BadWebs, bad, call, bad, (), *more)
                expect(self, BadWebs, bad, call, bad, None, *more)
                expect(self, BadWebs, bad, call, (FULL,), bad, *more)


if __name__ == "__main__":
    unittest.main()
