"""Pieces [6.1] and their certificates [6.2]."""

import unittest
from itertools import combinations

from helpers import (BIG_RING, COVERED, CUBE, CUT_PETERSEN, DOUBLE_PETERSEN, FULL, HEXAGON, LADDER, LENS, NOT_WEBS,
                     ODD_VALUES, ONE, PETERSEN, PRISM, SPLIT_PETERSEN, SQUARE, STAR, THREES, TIED_PETERSEN, TRIANGLE,
                     TWIN, WEBS, WHEEL, all_lots, covered_webs, expect, expect_bad_webs, random_webs, slow_inner,
                     slow_led, slow_odd_rests, slow_parts, slow_tight, twisted)
from oncecrossed.bricks import is_brace, is_brick, is_threefold, judge_piece, piece_holds, told_lot
from oncecrossed.errors import BadPaper, BadWeb

SMALL = tuple([web for web in COVERED if web[0] <= 8])
OCTAGON = (8, ((0, 1), (0, 7), (1, 2), (2, 3), (3, 4), (4, 5), (5, 6), (6, 7)))


def parts_beside(web, lot):
    """The parts of the web without a lot, as lots of the web."""
    bared = (web[0], tuple([ends for ends in web[1] if not set(ends) & set(lot)]))
    return [part for part in slow_parts(bared) if not set(part) & set(lot)]


def cut_papers(web):
    """All certificates of the third and the fourth kind, by all lots."""
    found = []
    for lot in all_lots(web):
        if len(lot) > 1 and slow_odd_rests(web, lot) == len(lot):
            found.extend([("barrier", lot, part) for part in parts_beside(web, lot) if len(part) > 2])
    for one, other in combinations(range(web[0]), 2):
        parts = parts_beside(web, (one, other))
        if all([len(part) % 2 == 0 for part in parts]):
            for many in range(1, len(parts)):
                for some in combinations(parts, many):
                    found.append(("two", one, other, tuple(sorted([place for part in some for place in part]))))
    return found


def is_slow_sided(web):
    """Whether a web is two-sided, by all lots."""
    return any([all([(a in lot) != (b in lot) for a, b in web[1]]) for lot in all_lots(web)])


def check_rows(case, web, lots, rows):
    """Fails if the rows are not pairings beside the lots, one for each."""
    case.assertEqual(len(rows), len(lots))
    for lot, row in zip(lots, rows):
        met = [place for number in row for place in web[1][number]]
        case.assertEqual(sorted(met + list(lot)), list(range(web[0])))
        case.assertEqual(list(row), sorted(row))


class TestThreefold(unittest.TestCase):
    def test_known(self):
        for web in (FULL, PRISM, WHEEL, THREES, CUBE, PETERSEN, BIG_RING, CUT_PETERSEN):
            self.assertIs(is_threefold(web=web), True, web)
        for web in (ONE, TWIN, TRIANGLE, STAR, SQUARE, HEXAGON, LENS, SPLIT_PETERSEN, TIED_PETERSEN, LADDER):
            self.assertIs(is_threefold(web), False, web)

    def test_against_the_definition(self):
        for web in list(WEBS) + list(COVERED) + random_webs(80, 300, 6, 16) + random_webs(81, 60, 9, 30):
            lots = [lot for lot in all_lots(web) if len(lot) <= 2]
            right = web[0] >= 4 and all([len(parts_beside(web, lot)) == 1 for lot in lots])
            self.assertIs(is_threefold(web), right, web)

    def test_bad_webs(self):
        for value in NOT_WEBS:
            expect(self, BadWeb, value, is_threefold, value)


class TestPieces(unittest.TestCase):
    def test_known(self):
        for web in (FULL, PRISM, WHEEL, PETERSEN, DOUBLE_PETERSEN, BIG_RING, CUT_PETERSEN):
            self.assertEqual((is_brick(web=web), is_brace(web=web)), (True, False), web)
        for web in (TWIN, SQUARE, THREES, CUBE):
            self.assertEqual((is_brick(web), is_brace(web)), (False, True), web)
        for web in (HEXAGON, LENS, SPLIT_PETERSEN, TIED_PETERSEN, LADDER, OCTAGON):
            self.assertEqual((is_brick(web), is_brace(web)), (False, False), web)

    def test_two_and_four_places(self):
        for web in covered_webs(82, 120, 4, 12):
            kind = "brace" if is_slow_sided(web) else "brick"
            self.assertEqual(judge_piece(web)[0], kind, web)
            self.assertEqual((is_brick(web), is_brace(web)), (kind == "brick", kind == "brace"))

    def test_against_the_definition(self):
        kinds = set()
        for web in list(COVERED[:-3]) + [OCTAGON] + covered_webs(83, 250, 10, 22):
            inner = slow_inner(web)
            sided = is_slow_sided(web)
            self.assertIs(is_brick(web), not inner and not sided, web)
            self.assertIs(is_brace(web), not inner and sided, web)
            kind = judge_piece(web)[0]
            self.assertEqual(kind in ("brick", "brace"), not inner)
            kinds.add(kind)
        self.assertEqual(sorted(kinds), ["barrier", "brace", "brick", "two"])

    def test_bad_webs(self):
        for call, more in ((judge_piece, ()), (is_brick, ()), (is_brace, ()), (piece_holds, (None,)), (told_lot, (None,))):
            expect_bad_webs(self, BadWeb, call, *more)


class TestJudged(unittest.TestCase):
    def test_known(self):
        self.assertEqual(judge_piece(web=(2, ((0, 1),))), ("brace", ()))
        self.assertEqual(judge_piece(SQUARE), ("brace", ()))
        self.assertEqual(judge_piece(FULL), ("brick", ((5,), (4,), (3,), (2,), (1,), (0,))))
        self.assertEqual(judge_piece(SPLIT_PETERSEN)[0], "barrier")
        self.assertEqual(judge_piece(TIED_PETERSEN)[0], "two")

    def test_rows(self):
        for web in list(COVERED) + covered_webs(84, 120, 12, 30):
            paper = judge_piece(web)
            self.assertIs(piece_holds(web, paper), True, (web, paper))
            if paper[0] == "brick":
                check_rows(self, web, list(combinations(range(web[0]), 2)), paper[1])
            elif paper[0] == "brace" and web[0] > 4:
                sides = [lot for lot in all_lots(web) if 0 in lot and all([(a in lot) != (b in lot) for a, b in web[1]])]
                rest = [place for place in range(web[0]) if place not in sides[0]]
                lots = [one + other for one in combinations(sides[0], 2) for other in combinations(rest, 2)]
                check_rows(self, web, lots, paper[1])
            elif paper[0] == "brace":
                self.assertEqual(paper[1], ())
            else:
                self.assertIn(paper, cut_papers(web))

    def test_side_with_the_place_0(self):
        web = slow_led(THREES, (5, 1, 3, 2, 0, 4))
        rows = judge_piece(web)[1]
        self.assertEqual(len(rows), 9)
        check_rows(self, web, [one + other for one in ((0, 2), (0, 4), (2, 4)) for other in ((1, 3), (1, 5), (3, 5))], rows)
        self.assertIs(piece_holds(web, ("brace", rows)), True)
        turned = tuple([rows[3 * (at % 3) + at // 3] for at in range(9)])
        self.assertNotEqual(turned, rows)
        self.assertIs(piece_holds(web, ("brace", turned)), False)


class TestHolds(unittest.TestCase):
    def test_all_cuts(self):
        for web in [web for web in SMALL if web[0] <= 6] + [OCTAGON] + covered_webs(85, 16, 6, 10):
            right = cut_papers(web)
            self.assertEqual(bool(right), bool(slow_inner(web)), web)
            lots = all_lots(web) if web[0] <= 6 else [lot for lot in all_lots(web) if len(lot) in (2, 3)]
            for lot in lots:
                for part in lots:
                    paper = ("barrier", lot, part)
                    self.assertIs(piece_holds(web, paper), paper in right, (web, paper))
                for one, other in combinations(range(web[0]), 2):
                    paper = ("two", one, other, lot)
                    self.assertIs(piece_holds(web, paper), paper in right, (web, paper))
                    self.assertIs(piece_holds(web, ("two", other, one, lot)), False)

    def test_rows(self):
        for web in (FULL, PRISM, WHEEL, THREES, CUBE, PETERSEN):
            kind, rows = judge_piece(web)
            other = "brace" if kind == "brick" else "brick"
            self.assertIs(piece_holds(web, (other, rows)), False)
            self.assertIs(piece_holds(web, (kind, ())), False)
            for at in range(len(rows)):
                for value in (rows[:at] + rows[at + 1:], rows[:at] + rows[at:at + 1] * 2 + rows[at + 1:],
                              rows[:at] + ((),) + rows[at + 1:], rows[:at] + (list(rows[at]),) + rows[at + 1:]):
                    self.assertIs(piece_holds(web, (kind, value)), False, (web, value))
                exchanged = rows[1:at + 1] + rows[:1] + rows[at + 1:]
                if at and exchanged != rows:
                    self.assertIs(piece_holds(web, (kind, exchanged)), False, (web, exchanged))

    def test_webs_without_pieces(self):
        # All rows of a brick, but for parting places; all rows of a brace but one.
        rows = []
        for lot in combinations(range(6), 2):
            found = [row for row in combinations(range(11), 2)
                     if sorted([place for at in row for place in LENS[1][at]] + list(lot)) == list(range(6))]
            rows.append(found[0])
        self.assertIs(piece_holds(LENS, ("brick", tuple(rows))), False)
        self.assertIs(piece_holds(HEXAGON, ("brace", ((),) * 9)), False)
        self.assertIs(piece_holds(HEXAGON, ("brace", ())), False)
        self.assertIs(piece_holds(SQUARE, ("brick", ())), False)
        self.assertIs(piece_holds(FULL, ("brace", ())), False)
        self.assertIs(piece_holds(TWIN, ("brick", ((),))), False)
        self.assertIs(piece_holds(SQUARE, ("brace", ((),))), False)

    def test_wrong_papers(self):
        for web in (SQUARE, FULL, HEXAGON, LENS):
            for value in ODD_VALUES:
                self.assertIs(piece_holds(web, value), False, value)
        for value in (None, 5, "345", [3, 4, 5], {3: 4}, (3, 4, 5, 6), (5, 4, 3), ((3,), 4, 5)):
            self.assertIs(piece_holds(HEXAGON, ("barrier", (0, 2), value)), False, value)
        for web, paper in ((FULL, judge_piece(FULL)), (HEXAGON, ("barrier", (0, 2), (3, 4, 5))), (TWIN, ("brace", ())),
                           (HEXAGON, ("barrier", (3, 5), (0, 1, 2))), (HEXAGON, ("two", 0, 3, (1, 2))), (LENS, ("two", 0, 1, (2, 3))), (PRISM, judge_piece(PRISM)), (THREES, judge_piece(THREES))):
            self.assertIs(piece_holds(web, paper), True)
            for value in twisted(paper):
                self.assertIs(piece_holds(web, value), False, (web, value))
        self.assertIs(piece_holds(web=OCTAGON, thing=("barrier", (0, 2, 4), (5, 6, 7))), True)
        self.assertIs(piece_holds(OCTAGON, ("two", 0, 3, (1, 2))), True)
        self.assertIs(piece_holds(OCTAGON, ("two", 0, 3, (4, 5, 6, 7))), True)
        self.assertIs(piece_holds(OCTAGON, ("two", 0, 3, (1, 2, 4, 5, 6, 7))), False)


class TestTold(unittest.TestCase):
    def test_known(self):
        self.assertEqual(told_lot(web=HEXAGON, thing=("barrier", (0, 2), (3, 4, 5))), (3, 4, 5))
        self.assertEqual(told_lot(LENS, ("two", 0, 1, (2, 3))), (0, 2, 3))
        self.assertEqual(told_lot(OCTAGON, ("two", 3, 6, (4, 5))), (3, 4, 5))
        self.assertEqual(told_lot(OCTAGON, ("two", 3, 6, (0, 1, 2, 7))), (0, 1, 2, 3, 7))

    def test_tight(self):
        for web in list(COVERED) + [OCTAGON] + covered_webs(86, 80, 10, 18):
            papers = cut_papers(web) if web[0] <= 8 else [judge_piece(web)]
            for paper in papers:
                if paper[0] in ("barrier", "two"):
                    lot = told_lot(web, paper)
                    self.assertEqual((len(lot) % 2, list(lot)), (1, sorted(lot)))
                    self.assertTrue(3 <= len(lot) <= web[0] - 3 and slow_tight(web, lot), (web, paper))

    def test_bad_papers(self):
        papers = list(ODD_VALUES) + [("barrier", (0, 2), (1,)), ("two", 0, 3, (1,)), ("barrier", (0,), (1, 2, 3, 4, 5)),
                                     ("two", 3, 0, (1, 2)), ("barrier", (0, 2), (3, 4)), ["two", 0, 3, (1, 2)]]
        for paper in papers + twisted(("barrier", (0, 2), (3, 4, 5))) + twisted(("two", 0, 3, (1, 2))):
            expect(self, BadPaper, paper, told_lot, HEXAGON, paper)
        for web in (FULL, SQUARE, PETERSEN):
            paper = judge_piece(web)
            expect(self, BadPaper, paper, told_lot, web, paper)


if __name__ == "__main__":
    unittest.main()
