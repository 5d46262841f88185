"""Takings apart [7.1], one list [7.2], numbers of pieces [7.3], lots of a taking [7.4]."""

import unittest
from itertools import combinations

from helpers import (BIG_RING, COVERED, CUBE, CUT_PETERSEN, DOUBLE_PETERSEN, FULL, HEXAGON, LADDER, LENS, ODD_VALUES,
                     PETERSEN, PRISM, SPLIT_PETERSEN, SQUARE, THICK_RING, THREES, TIED_PETERSEN, TWIN, all_lots, covered_webs, expect,
                     expect_bad_webs, slow_inner, slow_laid, slow_led, slow_tight, twisted)
from oncecrossed.bricks import is_brace, is_brick
from oncecrossed.errors import BadLots, BadTaking, BadWeb
from oncecrossed.lists import is_petersen, judge_list, list_holds
from oncecrossed.takings import is_taking, leaves, lots_of, piece_numbers, taking, taking_by

OCTAGON = (8, ((0, 1), (0, 7), (1, 2), (2, 3), (3, 4), (4, 5), (5, 6), (6, 7)))
DECAGON = (10, tuple(sorted([(a, a + 1) for a in range(9)] + [(0, 9)])))
# Two Petersen webs cannot be in twelve places; four full webs of four places can, along places that part the web.
FOUR_FULL = (10, tuple(sorted([(0, 1)] + [pair for a in (2, 4, 6, 8) for pair in
                                         ((0, a), (0, a + 1), (1, a), (1, a + 1), (a, a + 1))])))
PIECE = ("piece",)
SOME = tuple([web for web in COVERED if web[0] <= 8]) + (OCTAGON, FOUR_FULL)


def rest_of(web, lot):
    return tuple([place for place in range(web[0]) if place not in lot])


def both_ways(web):
    """All inner tight lots of a web, with the place 0 and without it."""
    found = slow_inner(web)
    return sorted(found + tuple([rest_of(web, lot) for lot in found]))


def slow_sides(web, lot):
    return slow_laid(web, rest_of(web, lot))[0], slow_laid(web, lot)[0]


def all_takings(web, most=400):
    """All takings of a web, or the first ones of them."""
    found = []
    for lot in both_ways(web):
        near, far = slow_sides(web, lot)
        found.extend([("cut", lot, one, other) for one in all_takings(near) for other in all_takings(far)])
    return found[:most] if found else [PIECE]


def slow_leaves(web, tree, numbers=None):
    """The leaves of a taking, laid one after the other."""
    numbers = tuple(range(len(web[1]))) if numbers is None else numbers
    if tree == PIECE:
        return [(web, numbers)]
    near, ones = slow_laid(web, rest_of(web, tree[1]))
    far, others = slow_laid(web, tree[1])
    return (slow_leaves(near, tree[2], tuple([numbers[at] for at in ones]))
            + slow_leaves(far, tree[3], tuple([numbers[at] for at in others])))


def slow_lots(web, tree, stands=None):
    """The lots of a taking, each place standing for a set of places of the whole web."""
    if tree == PIECE:
        return []
    stands = [{place} for place in range(web[0])] if stands is None else stands
    everything = set().union(*stands)
    lot = set().union(*[stands[place] for place in tree[1]])
    rest = rest_of(web, tree[1])
    near, far = slow_sides(web, tree[1])
    found = [tuple(sorted(lot if 0 in lot else everything - lot))]
    found += slow_lots(near, tree[2], [stands[place] for place in tree[1]] + [everything - lot])
    return sorted(found + slow_lots(far, tree[3], [stands[place] for place in rest] + [lot]))


def do_cross(web, one, other):
    one, other = set(one), set(other)
    return bool(one & other and one - other and other - one and set(range(web[0])) - one - other)


def apart_sets(web):
    """All sets of inner tight lots with the place 0, no two of which cross, ascending."""
    found = [()]
    for lot in slow_inner(web):
        found += [lots + (lot,) for lots in found if not any([do_cross(web, lot, other) for other in lots])]
    return found


class TestTakings(unittest.TestCase):
    def test_all_takings(self):
        for web in list(SOME) + covered_webs(100, 60, 8, 14):
            trees = all_takings(web)
            for tree in trees[:60]:
                self.assertIs(is_taking(web, tree), True, (web, tree))
                self.assertEqual(leaves(web, tree), tuple(slow_leaves(web, tree)), (web, tree))
                self.assertEqual(lots_of(web, tree), tuple(slow_lots(web, tree)), (web, tree))
            if len(trees) < 400:
                self.assertIn(taking(web), trees)

    def test_known(self):
        tree = ("cut", (0, 2, 3), PIECE, PIECE)
        self.assertIs(is_taking(web=LENS, thing=tree), True)
        self.assertEqual(leaves(web=LENS, tree=tree)[0],
                         ((4, ((0, 1), (0, 2), (0, 3), (0, 3), (0, 3), (1, 2), (1, 3), (2, 3))), (1, 2, 0, 3, 4, 9, 5, 6)))
        self.assertEqual(lots_of(web=LENS, tree=tree), ((0, 2, 3),))
        self.assertEqual(lots_of(LENS, ("cut", (1, 4, 5), PIECE, PIECE)), ((0, 2, 3),))
        self.assertEqual(lots_of(HEXAGON, ("cut", (3, 4, 5), PIECE, PIECE)), ((0, 1, 2),))
        for web in (TWIN, SQUARE, FULL, THREES, CUBE, PETERSEN):
            self.assertEqual(taking(web=web), PIECE)
            self.assertEqual(leaves(web, PIECE), ((web, tuple(range(len(web[1])))),))
            self.assertEqual(lots_of(web, PIECE), ())

    def test_takings_of_great_webs(self):
        for web in list(COVERED) + [OCTAGON, DECAGON, FOUR_FULL, THICK_RING] + covered_webs(101, 120, 12, 30):
            tree = taking(web)
            self.assertIs(is_taking(web, tree), True, (web, tree))
            found = leaves(web, tree)
            self.assertEqual(found, tuple(slow_leaves(web, tree)))
            for leaf, numbers in found:
                self.assertTrue(is_brick(leaf) or is_brace(leaf))
                self.assertEqual(len(numbers), len(leaf[1]))
            lots = lots_of(web, tree)
            self.assertEqual(len(lots), len(found) - 1)
            for lot in lots:
                self.assertTrue(0 in lot and 3 <= len(lot) <= web[0] - 3 and slow_tight(web, lot))
            self.assertFalse([pair for pair in combinations(lots, 2) if do_cross(web, *pair)])

    def test_pieces_taken_at_the_wrong_place(self):
        self.assertIs(is_taking(HEXAGON, PIECE), False)
        self.assertIs(is_taking(HEXAGON, ("cut", (0, 1, 2), PIECE, PIECE)), True)
        for lot in all_lots(HEXAGON):
            tree = ("cut", lot, PIECE, PIECE)
            self.assertIs(is_taking(HEXAGON, tree), lot in both_ways(HEXAGON), tree)
        for web in (SQUARE, PRISM, PETERSEN):
            self.assertIs(is_taking(web, ("cut", (0, 1, 2), PIECE, PIECE)), False)
            self.assertIs(is_taking(web, ("cut", (0,), PIECE, PIECE)), False)
        deep = ("cut", (0, 1, 2), PIECE, ("cut", (0, 1, 5), PIECE, PIECE))
        self.assertIs(is_taking(OCTAGON, deep), True)
        for tree in (("cut", (0, 1, 2), ("cut", (0, 1, 5), PIECE, PIECE), PIECE), ("cut", (0, 1, 2), PIECE, PIECE),
                     ("cut", (0, 1, 2), PIECE, ("cut", (0, 1, 3), PIECE, PIECE))):
            self.assertIs(is_taking(OCTAGON, tree), False)

    def test_any_value(self):
        for value in ODD_VALUES + (("piece", ()), ["piece"], "piece", ("cut", (0, 1, 2)), ("cut", (0, 1, 2), PIECE),
                                   ("piece", PIECE), (PIECE,), ("cut", (0, 1, 2), "piece", PIECE)):
            self.assertIs(is_taking(HEXAGON, value), False, value)
            self.assertIs(is_taking(SQUARE, value), False, value)
        for web, tree in ((HEXAGON, ("cut", (0, 1, 2), PIECE, PIECE)), (LENS, ("cut", (1, 4, 5), PIECE, PIECE)),
                          (OCTAGON, taking(OCTAGON)), (TWIN, PIECE)):
            self.assertIs(is_taking(web, tree), True)
            for value in twisted(tree):
                self.assertIs(is_taking(web, value), False, (web, value))
                expect(self, BadTaking, value, leaves, web, value)
                expect(self, BadTaking, value, lots_of, web, value)

    def test_bad_webs(self):
        expect_bad_webs(self, BadWeb, taking)
        expect_bad_webs(self, BadWeb, piece_numbers)
        for call in (is_taking, leaves, lots_of):
            expect_bad_webs(self, BadWeb, call, PIECE)
            expect_bad_webs(self, BadWeb, call, None)
        expect_bad_webs(self, BadWeb, taking_by, ())
        expect_bad_webs(self, BadWeb, taking_by, None)


class TestOneList(unittest.TestCase):
    def test_leaves_of_any_two_takings(self):
        for web in list(SOME) + covered_webs(102, 40, 8, 12):
            lists = [tuple([leaf for leaf, _ in leaves(web, tree)]) for tree in all_takings(web)[::7]]
            for other in lists:
                paper = judge_list(lists[0], other)
                self.assertIs(list_holds(lists[0], other, paper), True, (web, other))

    def test_one_web_called_otherwise(self):
        for at, web in enumerate((SPLIT_PETERSEN, TIED_PETERSEN, LADDER, FOUR_FULL, DECAGON)):
            other = slow_led(web, tuple([(place * 7 + at) % web[0] for place in range(web[0])]))
            ones = tuple([leaf for leaf, _ in leaves(web, taking(web))])
            others = tuple([leaf for leaf, _ in leaves(other, taking(other))])
            self.assertIs(list_holds(ones, others, judge_list(ones, others)), True)


class TestPieceNumbers(unittest.TestCase):
    def test_known(self):
        for web, numbers in ((TWIN, (0, 0, 1)), (SQUARE, (0, 0, 1)), (FULL, (1, 0, 0)), (HEXAGON, (0, 0, 2)),
                             (LENS, (2, 0, 0)), (PETERSEN, (1, 1, 0)), (DOUBLE_PETERSEN, (1, 1, 0)), (CUBE, (0, 0, 1)),
                             (SPLIT_PETERSEN, (1, 1, 1)), (TIED_PETERSEN, (2, 1, 0)), (CUT_PETERSEN, (1, 0, 0)),
                             (BIG_RING, (1, 0, 0)), (OCTAGON, (0, 0, 3)), (DECAGON, (0, 0, 4)), (FOUR_FULL, (4, 0, 0))):
            self.assertEqual(piece_numbers(web=web), numbers, web)

    def test_the_same_for_all_takings(self):
        for web in list(SOME) + covered_webs(103, 40, 8, 14):
            for tree in all_takings(web)[::5]:
                webs = [leaf for leaf, _ in leaves(web, tree)]
                bricks = [leaf for leaf in webs if is_brick(leaf)]
                many = (len(bricks), len([leaf for leaf in bricks if is_petersen(leaf)]), len(webs) - len(bricks))
                self.assertEqual(piece_numbers(web), many)


class TestTakingBy(unittest.TestCase):
    def test_all_sets(self):
        full = 0
        for web in list(SOME) + covered_webs(104, 50, 10, 14):
            sets = apart_sets(web)
            many = len(leaves(web, taking(web))) - 1
            for lots in sets[:150]:
                tree = taking_by(web, lots)
                self.assertIs(is_taking(web, tree), True, (web, lots))
                self.assertLessEqual(set(lots), set(lots_of(web, tree)), (web, lots))
            for lots in sets:
                more = [lot for lot in slow_inner(web) if lot not in lots
                        and not any([do_cross(web, lot, other) for other in lots])]
                # To a set to which none can be added as many lots belong as to each taking.
                self.assertEqual(not more, len(lots) == many, (web, lots))
                full += not more and many > 1
        self.assertGreater(full, 30)

    def test_great_webs(self):
        for web in (SPLIT_PETERSEN, TIED_PETERSEN, LADDER, DECAGON):
            for lots in apart_sets(web)[::3]:
                tree = taking_by(web=web, lots=lots)
                self.assertIs(is_taking(web, tree), True)
                self.assertLessEqual(set(lots), set(lots_of(web, tree)))
        self.assertEqual(lots_of(TIED_PETERSEN, taking_by(TIED_PETERSEN, ((0, 10, 11),))), ((0, 10, 11),))

    def test_no_lots(self):
        for web in COVERED:
            self.assertIs(is_taking(web, taking_by(web, ())), True)

    def test_bad_lots(self):
        good = ((0, 1, 2),)
        bad = [value for value in ODD_VALUES if value != ()] + [
            [(0, 1, 2)], ((0, 1, 2), (0, 1, 2)), ((0, 1, 2), (0, 1, 5)), ((0, 1, 5), (0, 1, 2)), ((3, 4, 5),), ((0,),),
            ((0, 1, 2, 3, 4),), ((0, 1),), ((0, 1, 3),), ((0, 2, 4),), ([0, 1, 2],), ((0, 1, 2), None), ((),),
            ((False, 1, 2),), ((0, True, 2),), ((1, 0, 2),), (0, 1, 2), "012"]
        for value in bad:
            expect(self, BadLots, value, taking_by, HEXAGON, value)
        self.assertIs(is_taking(HEXAGON, taking_by(HEXAGON, good)), True)
        within = ((0, 1, 2), (0, 1, 2, 3, 4))
        self.assertEqual(lots_of(OCTAGON, taking_by(OCTAGON, within)), within)
        for value in (within[::-1], within[:1] * 2, ((0, 1, 2), (0, 1, 7)), ((0, 1, 2), (0, 6, 7))):
            expect(self, BadLots, value, taking_by, OCTAGON, value)
        rows = tuple([(0, a, b) for a in range(1, 12) for b in range(a + 1, 12)])
        expect(self, BadLots, rows, taking_by, LADDER, rows)


if __name__ == "__main__":
    unittest.main()
