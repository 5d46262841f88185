"""What holds over the whole program: webs behind renamings, with a doubled tie, without a spare tie, and in workshops."""

import random
import unittest

from helpers import COVERED, SHOP, WEBS, covered_webs, quick_pairings, random_webs, slow_led
from oncecrossed.barriers import barriers, classes
from oncecrossed.bricks import is_brace, is_brick, is_threefold, judge_piece
from oncecrossed.covered import is_covered, judge_covered
from oncecrossed.critical import is_critical, judge_critical, leaving
from oncecrossed.ears import ears_hold, is_row, judge_ears, least_doubles
from oncecrossed.halves import halves, judge_halves
from oncecrossed.laid import is_tight, tight_lots
from oncecrossed.leaning import flocks, judge_leaning
from oncecrossed.lists import judge_list, list_holds
from oncecrossed.mixes import judge_mix, parted
from oncecrossed.pairings import judge_pairing, pairings
from oncecrossed.spans import judge_span, span_number
from oncecrossed.spare import judge_lean, judge_spare, keeping_ties, spare_pairs, spare_ties, thinning, web_less
from oncecrossed.takings import leaves, lots_of, piece_numbers, taking
from oncecrossed.texts import read_web, text_of
from oncecrossed.tiesin import let_ties, needed_ties
from oncecrossed.turnings import freedom, turning_rings
from oncecrossed.ways import fast_ties, herds, steps_between
from oncecrossed.webs import is_joined, judge_sides, parts_of
from oncecrossed.wholesums import five_lots, judge_whole
from oncecrossed.workshops import Workshop, read_workshop

TEN = (10, tuple(sorted([(a, a + 1) for a in range(9)] + [(0, 9)])))
FOUR_FULL = (10, tuple(sorted([(0, 1)] + [pair for a in (2, 4, 6, 8) for pair in
                                          ((0, a), (0, a + 1), (1, a), (1, a + 1), (a, a + 1))])))
SOME = [web for web in COVERED if web[0] <= 8 and len(web[1]) <= 16] + covered_webs(280, 25, 8, 14)


def behind(web, renaming):
    """The web behind a renaming, and for each of its ties the number that the tie has in the web."""
    called = sorted([(tuple(sorted([renaming[a], renaming[b]])), number) for number, (a, b) in enumerate(web[1])])
    return (web[0], tuple([ends for ends, _ in called])), [number for _, number in called]


def lots_led(lots, renaming):
    return sorted([tuple(sorted([renaming[place] for place in lot])) for lot in lots])


def with_0(web, lots):
    """Lots, or their rests, with the place 0."""
    return sorted([lot if 0 in lot else tuple([place for place in range(web[0]) if place not in lot]) for lot in lots])


def numbers_led(rows, numbers):
    """Tuples of numbers of ties, called as in the web behind a renaming."""
    return sorted([tuple(sorted([numbers.index(number) for number in row])) for row in rows])


class TestRenamings(unittest.TestCase):
    def renamed(self, webs, seed):
        chance = random.Random(seed)
        for web in webs:
            renaming = chance.sample(range(web[0]), web[0])
            other, numbers = behind(web, renaming)
            self.assertEqual(other, slow_led(web, renaming))
            yield web, other, renaming, numbers

    def test_any_webs(self):
        webs = [web for web in WEBS if web[0] <= 8 and len(web[1]) <= 16] + random_webs(281, 80, 8, 12) + SOME
        for web, other, renaming, numbers in self.renamed(webs, 282):
            self.assertEqual(list(pairings(other)), numbers_led(pairings(web), numbers))
            self.assertEqual(list(parts_of(other)), lots_led(parts_of(web), renaming))
            self.assertEqual([(at,) for at in let_ties(other)], numbers_led([(at,) for at in let_ties(web)], numbers))
            for call in (is_covered, is_joined, is_threefold, is_critical):
                self.assertEqual(call(other), call(web))
            for call in (judge_sides, judge_pairing, judge_critical):
                self.assertEqual(call(other)[0], call(web)[0])
            self.assertEqual(judge_covered(other)[0] == "covered", judge_covered(web)[0] == "covered")
            self.assertEqual(read_web(text_of(other)), other)
            for place in range(web[0]):
                self.assertEqual(leaving(other, renaming[place]) is None, leaving(web, place) is None)
            if web[0] > 1:
                self.assertEqual(sorted([(len(rings), len(ties)) for rings, ties in halves(other)]),
                                 sorted([(len(rings), len(ties)) for rings, ties in halves(web)]))
                self.assertEqual(parted(other) is None, parted(web) is None)
            if pairings(web):
                self.assertEqual(freedom(other), freedom(web))
                self.assertEqual([(at,) for at in needed_ties(other)], numbers_led([(at,) for at in needed_ties(web)], numbers))

    def test_covered_webs(self):
        chance = random.Random(283)
        for web, other, renaming, numbers in self.renamed(SOME, 284):
            self.assertEqual(list(classes(other)), lots_led(classes(web), renaming))
            self.assertEqual(list(barriers(other)), lots_led(barriers(web), renaming))
            self.assertEqual(list(tight_lots(other)), with_0(web, lots_led(tight_lots(web), renaming)))
            for call in (is_brick, is_brace, piece_numbers, span_number, least_doubles):
                self.assertEqual(call(other), call(web), web)
            self.assertEqual(len(five_lots(other)), len(five_lots(web)))
            self.assertEqual(len(lots_of(other, taking(other))), len(lots_of(web, taking(web))))
            for call in (flocks, spare_pairs):
                self.assertEqual(list(call(other)), numbers_led(call(web), numbers))
            for call in (spare_ties, keeping_ties):
                self.assertEqual(numbers_led([(at,) for at in call(web)], numbers), [(at,) for at in call(other)])
            one, two = [[web for web, _ in leaves(side, taking(side))] for side in (web, other)]
            self.assertIs(list_holds(tuple(one), tuple(two), judge_list(tuple(one), tuple(two))), True)
            weights = tuple([chance.randint(0, 2) for _ in web[1]])
            led = tuple([weights[number] for number in numbers])
            for call in (judge_span, judge_whole, judge_mix, judge_halves):
                good = ("sums", "whole", "mix", "halves")
                self.assertEqual(call(other, led)[0] in good, call(web, weights)[0] in good)

    def test_ways(self):
        for web, other, renaming, numbers in self.renamed([web for web in SOME if len(quick_pairings(web)) <= 30], 285):
            rows = pairings(web)
            for most in (2, 4, 6, 12):
                led = sorted([numbers_led(herd, numbers) for herd in herds(web, most)])
                self.assertEqual([list(herd) for herd in herds(other, most)], led)
                one, two = numbers_led([rows[0]], numbers)[0], numbers_led([rows[-1]], numbers)[0]
                self.assertEqual(steps_between(other, one, two, most), steps_between(web, rows[0], rows[-1], most))
                self.assertEqual([(at,) for at in fast_ties(other, one, most)],
                                 numbers_led([(at,) for at in fast_ties(web, rows[0], most)], numbers))
                self.assertEqual(sorted([sorted(ring) for ring in turning_rings(other, one, most)]),
                                 [list(ring) for ring in numbers_led(turning_rings(web, rows[0], most), numbers)])


class TestDoubledTies(unittest.TestCase):
    def test_same(self):
        chance = random.Random(286)
        for web in [web for web in SOME if web[0] > 2]:
            ends = chance.choice(web[1])
            double = (web[0], tuple(sorted(web[1] + (ends,))))
            for call in (classes, barriers, tight_lots, piece_numbers, least_doubles, is_brick, is_brace, is_covered):
                self.assertEqual(call(double), call(web), (call.__name__, web))
            self.assertEqual(span_number(double), span_number(web) + 1)
            self.assertEqual(freedom(double), freedom(web) + 1)
            at = double[1].index(ends)
            self.assertTrue({at, at + 1} <= set(spare_ties(double)) & set(keeping_ties(double)))
            self.assertIn((at,), flocks(double))
            self.assertEqual(judge_lean(double)[0], "spare")
            one, two = [tuple([leaf for leaf, _ in leaves(side, taking(side))]) for side in (web, double)]
            self.assertEqual(judge_list(one, two)[0], "one")
            self.assertEqual(judge_leaning(double, at, at + 1)[0], "free")


class TestSpareTies(unittest.TestCase):
    def test_without_one(self):
        met = 0
        for web in SOME:
            for number in spare_ties(web)[:4]:
                left = web_less(web, (number,))
                met += 1
                self.assertIs(is_covered(left), True)
                self.assertEqual(judge_spare(web, number)[0], "spare")
                self.assertTrue(set(tight_lots(web)) <= set(tight_lots(left)))
                self.assertTrue(set(barriers(web)) <= set(barriers(left)))
                bricks, more = piece_numbers(web)[0], piece_numbers(left)[0]
                self.assertGreaterEqual(more, bricks)
                self.assertEqual(number in keeping_ties(web), more == bricks)
                self.assertEqual(span_number(left), span_number(web) - 1 - (more - bricks))
                self.assertGreaterEqual(least_doubles(left), least_doubles(web))
                # The tie that is put in last is a single step.
                first, steps = judge_ears(left, 20)[1]
                names = [at for at in range(len(web[1])) if at != number]
                steps = tuple([tuple([tuple([names[at] for at in ear]) for ear in step]) for step in steps])
                self.assertIs(is_row(web, (names[first], steps + (((number,),),))), True)
        self.assertGreater(met, 40)

    def test_thinnings(self):
        for web in SOME:
            taken = thinning(web)
            self.assertEqual(spare_ties(web_less(web, taken)), ())


class TestWorkshops(unittest.TestCase):
    def test_takings_in_workshops(self):
        # A taking's lots, laid together one within the other, are bunches of a strict workshop.
        met = 0
        for web in SOME + [TEN, FOUR_FULL] + covered_webs(287, 40, 10, 13):
            shop = Workshop(web, True)
            for lot in lots_of(web, taking(web)):
                for part in (lot, tuple([place for place in range(web[0]) if place not in lot])):
                    places = [at for at, item in enumerate(shop.showing()) if within(item, part)]
                    if covers(shop.showing(), places, part) and 2 <= len(places) < len(shop.showing()):
                        shop.change(("lay", tuple(places)))
                        met += 1
                        break
                self.assertIs(is_covered(shop.shown()[0]), True)
                self.assertTrue(read_workshop(str(shop)) == shop)
            while shop.deeds():
                shop.undo()
            self.assertEqual(shop.base(), web)
        self.assertGreater(met, 10)

    def test_kept_in_step(self):
        for web in SOME:
            shop = Workshop(web, True)
            for number in range(len(web[1])):
                self.assertIs(shop.would((("take", number),)), number in spare_ties(web))
            for lot in tight_lots(web):
                self.assertIs(is_tight(web, lot), True)
                self.assertIs(shop.would((("lay", lot),)), True)
            for pairing in pairings(web)[:3]:
                shop.change(("hold", pairing))
                for ring in turning_rings(web, pairing, 12)[:3]:
                    shop.change(("turn", ring))
                    shop.undo()
            self.assertEqual(shop.base(), web)

    def test_other_kinds(self):
        # A workshop is no web, no certificate and no part of one.
        for web in SOME[:4]:
            self.assertIs(ears_hold(web, 0, SHOP), False)
            self.assertIs(ears_hold(web, 0, ("ears", SHOP)), False)
            self.assertNotEqual(judge_piece(web), SHOP)
        self.assertIs(is_covered(SHOP), False)
        self.assertIs(is_critical(SHOP), False)


def within(item, part):
    """Whether all places of an item are in a lot."""
    return all([within(inner, part) for inner in item]) if isinstance(item, tuple) else item in part


def covers(showing, places, part):
    """Whether the items at some positions have all places of a lot."""
    met = []
    waiting = [showing[at] for at in places]
    while waiting:
        item = waiting.pop()
        if isinstance(item, tuple):
            waiting.extend(item)
        else:
            met.append(item)
    return sorted(met) == sorted(part)


if __name__ == "__main__":
    unittest.main()
