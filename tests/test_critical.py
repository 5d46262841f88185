"""Critical webs [12.1], odd ears [12.2], what is laid together [12.3], parts beside greatest barriers [12.4]."""

import random
import unittest
from itertools import combinations, permutations, product

from helpers import (BARE, COVERED, FULL, HEXAGON, LINE, NOT_WEBS, ODD_VALUES, ONE, PENTAGON, PETERSEN, SQUARE, STAR,
                     TRIANGLE, TWIN, WEBS, all_lots, covered_webs, expect, quick_pairings, random_webs, slow_laid,
                     slow_odd_rests, slow_parts, slow_rings, twisted)
from oncecrossed.barriers import classes
from oncecrossed.critical import (are_ears, critical_holds, is_critical, judge_critical, leaving, shrinking_ring)
from oncecrossed.errors import BadPlace, BadWeb, NotCritical
from oncecrossed.webs import within

FORK = (3, ((0, 1), (0, 2)))
BOW = (5, ((0, 1), (0, 2), (0, 3), (0, 4), (1, 2), (3, 4)))
FULL_FIVE = (5, tuple(combinations(range(5), 2)))
RING_OF_ELEVEN = (11, tuple(sorted([(a, a + 1) for a in range(10)] + [(0, 10)])))
# Eleven places and thirty ties; triangles in a row, each with a place of the one ahead of it.
THICK_ELEVEN = (11, tuple(sorted(RING_OF_ELEVEN[1] * 2 + tuple([(a, a + 2) for a in range(8)]))))
TRIANGLES = (11, tuple(sorted([pair for a in range(0, 10, 2) for pair in combinations((a, a + 1, a + 2), 2)])))
THICK_TRIANGLE = (3, ((0, 1), (0, 1), (0, 2), (1, 2), (1, 2)))
CRITICAL = (ONE, TRIANGLE, THICK_TRIANGLE, PENTAGON, BOW, FULL_FIVE, RING_OF_ELEVEN, THICK_ELEVEN, TRIANGLES)
# Places without ties; two triangles side by side with a place between them; a ring of four with a place at its end.
NOT_CRITICAL = (FORK, (3, ()), (5, ((0, 1), (0, 2), (1, 2))), (3, ((0, 1), (0, 1))), (11, ()),
                (7, ((0, 1), (0, 2), (1, 2), (2, 3), (3, 4), (4, 5), (4, 6), (5, 6))),
                (5, ((0, 1), (0, 3), (1, 2), (2, 3), (3, 4))), (5, ((0, 3), (0, 4), (1, 3), (1, 4), (2, 3), (2, 4))))
EVEN = (TWIN, (2, ()), FULL, SQUARE, LINE, STAR, HEXAGON, PETERSEN, BARE)


def odd_webs(seed, many):
    """Webs with an odd number of places, and with many odd rings or few of them."""
    chance = random.Random(seed)
    found = []
    for _ in range(many):
        places = chance.choice((1, 3, 5, 5, 7, 7, 9))
        pairs = list(combinations(range(places), 2))
        ties = [chance.choice(pairs) for _ in range(chance.randint(places - 1, 2 * places))] if pairs else []
        found.append((places, tuple(sorted(ties))))
    return found


def slow_leaving(web, place):
    """All ascending tuples of ties that leave just one place out."""
    others = [at for at in range(web[0]) if at != place]
    kept = [number for number, ends in enumerate(web[1]) if place not in ends]
    inner = (len(others), tuple([tuple([others.index(end) for end in web[1][number]]) for number in kept]))
    return [tuple([kept[at] for at in row]) for row in quick_pairings(inner)] if others else [()]


def is_slow_critical(web):
    return all([slow_leaving(web, place) for place in range(web[0])])


def slow_inner_places(web, stands, ear):
    """The inner places of an odd ear, None if it is none: its ties are followed from each place that stands."""
    for start in sorted(stands):
        met = [start]
        for number in ear:
            met += [end for end in web[1][number] if end != met[-1]] if met[-1] in web[1][number] else [None, None]
        inner = met[1:-1]
        if len(ear) >= 3 and len(ear) % 2 and len(met) == len(ear) + 1 and met[-1] in stands and None not in met:
            if len(set(inner)) == len(inner) and not set(inner) & stands and len(set(ear)) == len(ear):
                return set(inner)
    return None


def are_slow_ears(web, ears):
    stands = {0}
    for ear in ears:
        inner = slow_inner_places(web, stands, ear)
        if inner is None:
            return False
        stands |= inner
    return len(stands) == web[0]


class TestCritical(unittest.TestCase):
    def test_against_the_definition(self):
        met = {True: 0, False: 0}
        for web in list(CRITICAL) + list(NOT_CRITICAL) + list(EVEN) + odd_webs(170, 200) + random_webs(171, 100, 7, 14):
            right = is_slow_critical(web)
            met[right] += 1
            self.assertIs(is_critical(web), right, web)
            for place in range(web[0]):
                found = leaving(web, place)
                self.assertTrue(found in slow_leaving(web, place) if slow_leaving(web, place) else found is None)
        self.assertGreater(min(met.values()), 40, met)
        self.assertTrue(all([is_critical(web) for web in CRITICAL]))
        self.assertFalse(any([is_critical(web) for web in NOT_CRITICAL + EVEN]))

    def test_known(self):
        self.assertIs(is_critical(thing=ONE), True)
        self.assertEqual(leaving(web=ONE, place=0), ())
        self.assertEqual(leaving(TRIANGLE, 1), (1,))
        self.assertEqual(leaving(PENTAGON, 0), (2, 4))
        self.assertIsNone(leaving(FORK, 0))
        self.assertEqual(leaving(FORK, 1), (1,))
        for place in range(4):
            self.assertIsNone(leaving(FULL, place))

    def test_any_value(self):
        for value in NOT_WEBS:
            self.assertIs(is_critical(value), False, value)

    def test_errors(self):
        for value in NOT_WEBS:
            for call, more in ((leaving, (0,)), (leaving, (None,)), (are_ears, ((),)), (are_ears, (None,)),
                               (judge_critical, ()), (critical_holds, (None,)), (shrinking_ring, ())):
                expect(self, BadWeb, value, call, value, *more)
        for value in [value for value in ODD_VALUES if value is True or not isinstance(value, int) or not 0 <= value < 3]:
            expect(self, BadPlace, value, leaving, TRIANGLE, value)
        for value in (3, -1, False, "0", (0,), 10 ** 99):
            expect(self, BadPlace, value, leaving, TRIANGLE, value)


class TestEars(unittest.TestCase):
    def test_judged(self):
        kinds = {"ears": 0, "lot": 0, "even": 0}
        for web in list(CRITICAL) + list(NOT_CRITICAL) + list(EVEN) + odd_webs(172, 250) + random_webs(173, 60, 8, 14):
            paper = judge_critical(web)
            kinds[paper[0]] += 1
            if web[0] % 2 == 0:
                self.assertEqual(paper, ("even",))
            elif is_slow_critical(web):
                self.assertEqual(paper[0], "ears")
                self.assertTrue(are_slow_ears(web, paper[1]), (web, paper))
                self.assertIs(are_ears(web, paper[1]), True)
            else:
                self.assertEqual(paper[0], "lot")
                self.assertTrue(paper[1] and slow_odd_rests(web, paper[1]) > len(paper[1]), (web, paper))
                self.assertIs(are_ears(web, ()), False)
            self.assertIs(critical_holds(web, paper), True, (web, paper))
            for other in (("ears", ()), ("lot", ()), ("even",)):
                right = other == paper or other == ("ears", ()) and web[0] == 1
                self.assertIs(critical_holds(web, other), right, (web, other))
        self.assertGreater(min(kinds.values()), 20, kinds)

    def test_known(self):
        self.assertEqual(judge_critical(web=FORK), ("lot", (0,)))
        self.assertEqual(judge_critical(ONE), ("ears", ()))
        self.assertIn(judge_critical(TRIANGLE), (("ears", ((0, 2, 1),)), ("ears", ((1, 2, 0),))))
        self.assertEqual(judge_critical(TWIN), ("even",))
        self.assertIs(critical_holds(web=BOW, thing=("ears", ((0, 4, 1), (2, 5, 3)))), True)
        self.assertIs(critical_holds(BOW, ("ears", ((2, 5, 3), (1, 4, 0)))), True)
        self.assertIs(are_ears(web=PENTAGON, thing=((0, 2, 3, 4, 1),)), True)
        self.assertIs(are_ears(ONE, ()), True)

    def test_all_rows_of_ties(self):
        # Each row of three ties, and each two of them, in small webs; rings and other ears, from either end.
        for web in (TRIANGLE, THICK_TRIANGLE, BOW, FORK, (5, ((0, 1), (0, 2), (1, 2), (1, 3), (2, 4), (3, 4))),
                    (5, ((0, 1), (0, 1), (0, 2), (1, 2), (1, 3), (2, 4), (3, 4)))):
            rows = [row for many in (1, 2, 3, 4) for row in product(range(len(web[1])), repeat=many)][:1500]
            right = [row for row in rows if slow_inner_places(web, {0}, row)]
            self.assertEqual([row for row in rows if are_ears(web, (row,))], [row for row in right if web[0] == 3])
            for row in right:
                behind = [other for other in rows if are_slow_ears(web, (row, other))]
                self.assertEqual([other for other in rows if are_ears(web, (row, other))], behind)

    def test_ears_of_five_ties(self):
        web = (7, ((0, 1), (0, 2), (1, 2), (1, 3), (2, 6), (3, 4), (4, 5), (5, 6)))
        for ears, right in ((((0, 2, 1), (3, 5, 6, 7, 4)), True), (((1, 2, 0), (4, 7, 6, 5, 3)), True),
                            (((0, 3, 5, 6, 7, 4, 1),), True), (((0, 2, 1), (5, 6, 7)), False), (((0, 2, 1),), False),
                            (((3, 5, 6, 7, 4), (0, 2, 1)), False), (((0, 2, 1), (3, 5, 6, 7, 4), (0, 2, 1)), False),
                            (((0, 2, 1), (3, 5, 6, 7, 4), ()), False), (((0, 2, 1), (3, 5, 6, 7, 4), (0,)), False)):
            self.assertEqual(are_slow_ears(web, ears), right)
            self.assertIs(are_ears(web, ears), right, ears)
            self.assertIs(critical_holds(web, ("ears", ears)), right, ears)

    def test_places_met_twice(self):
        # So many inner places as the web has others, but one of them is met twice; and two rings with four ties each.
        twice = (5, ((0, 1), (0, 3), (1, 2), (1, 2), (1, 3), (3, 4)))
        self.assertIs(are_ears(twice, ((0, 2, 3, 4, 1),)), False)
        fours = (7, ((0, 1), (0, 3), (0, 4), (0, 6), (1, 2), (2, 3), (4, 5), (5, 6)))
        self.assertIs(are_ears(fours, ((0, 4, 5, 1), (2, 6, 7, 3))), False)

    def test_all_lots(self):
        for web in list(CRITICAL[:6]) + list(NOT_CRITICAL[:4]) + list(EVEN[:4]) + odd_webs(174, 60):
            for lot in all_lots(web):
                right = web[0] % 2 == 1 and lot != () and slow_odd_rests(web, lot) > len(lot)
                self.assertIs(critical_holds(web, ("lot", lot)), right, (web, lot))

    def test_wrong_papers(self):
        for web in (TRIANGLE, BOW, FORK, SQUARE, PENTAGON):
            good = judge_critical(web)
            for value in list(ODD_VALUES) + twisted(good) + [("ears", judge_critical(TRIANGLE)[1], ()), ("lot", (0,), ())]:
                right = repr(value) == "('lot', (0,))" and web == FORK
                self.assertIs(critical_holds(web, value), right, (web, value))
            for value in list(ODD_VALUES) + twisted(judge_critical(BOW)[1]):
                self.assertIs(are_ears(web, value), False, (web, value))


class TestLaidTogether(unittest.TestCase):
    def test_rings(self):
        met = 0
        for web in list(CRITICAL) + [web for web in odd_webs(175, 250) if is_slow_critical(web)]:
            ring = shrinking_ring(web)
            if web[0] == 1:
                self.assertIsNone(ring)
                continue
            places = {place for number in ring for place in web[1][number]}
            self.assertTrue(len(ring) % 2 == 1 and len(ring) >= 3 and len(places) == len(ring))
            if web[0] <= 5:
                self.assertIn(ring, slow_rings(web))
            if len(places) < web[0]:
                met += 1
                self.assertTrue(is_slow_critical(slow_laid(web, tuple(sorted(places)))[0]), (web, ring))
        self.assertGreater(met, 20)

    def test_not_critical(self):
        for web in NOT_CRITICAL + EVEN:
            with self.assertRaises(NotCritical) as caught:
                shrinking_ring(web=web)
            paper = caught.exception.certificate
            self.assertIn(paper[0], ("lot", "even"))
            self.assertIs(critical_holds(web, paper), True)

    def test_what_is_laid_together(self):
        met = 0
        for web in list(CRITICAL[:6]) + odd_webs(176, 50):
            for lot in [lot for lot in all_lots(web) if 0 < len(lot) < web[0]]:
                if is_critical(within(web, lot)) and is_critical(slow_laid(web, lot)[0]):
                    met += 1
                    self.assertIs(is_critical(web), True, (web, lot))
        self.assertGreater(met, 100)


class TestPartsBesideClasses(unittest.TestCase):
    def test_parts(self):
        sizes = set()
        for web in [web for web in COVERED if web[0] <= 10] + covered_webs(177, 60, 10, 20):
            for lot in classes(web):
                rest = [place for place in range(web[0]) if place not in lot]
                bared = (web[0], tuple([ends for ends in web[1] if not set(ends) & set(lot)]))
                for part in [part for part in slow_parts(bared) if part[0] in rest]:
                    sizes.add(len(part))
                    self.assertIs(is_critical(within(web, part)), True, (web, part))
        self.assertLessEqual({1, 3, 5, 7, 9}, sizes)


if __name__ == "__main__":
    unittest.main()
