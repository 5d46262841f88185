"""Rows of ears [13.1], that there is one [13.2], how many double steps it has [13.3], pairings along it [13.4]."""

import random
import unittest
from itertools import combinations, permutations, product

from helpers import (COVERED, CUBE, CUT_PETERSEN, CUT_PRISM, DOUBLE_PETERSEN, FULL, HEXAGON, LENS, ODD_VALUES, PETERSEN,
                     PRISM, SQUARE, THREES, TIED_PETERSEN, TWIN, covered_webs, expect, expect_bad_webs, quick_pairings, slow_rank,
                     slow_total, twisted)
from oncecrossed.bricks import is_brick
from oncecrossed.ears import ears_hold, is_row, judge_ears, least_doubles, pairings_along
from oncecrossed.errors import BadNumber, BadRow, BadWeb
from oncecrossed.spans import are_independent, span_number
from oncecrossed.takings import is_taking, leaves, piece_numbers, taking
from oncecrossed.webs import judge_sides

PAIR = (2, ((0, 1),))
ROW = (0, (((1, 5, 4),), ((2,), (3,))))
MORE = (4, ((0, 1), (0, 1), (0, 2), (0, 3), (1, 2), (1, 3), (2, 3)))
# Four bricks along two places that part the web, ten places in all: four double steps.
FOUR_FULL = (10, tuple(sorted([(0, 1)] + [pair for a in (2, 4, 6, 8) for pair in
                                          ((0, a), (0, a + 1), (1, a), (1, a + 1), (a, a + 1))])))
# A brick with a tie, its first one, that the bricks of the web without it do not need: there are two of them.
LOOSE = (6, ((0, 1), (0, 2), (0, 3), (0, 4), (1, 2), (1, 3), (1, 5), (2, 4), (2, 5), (3, 4), (3, 5)))
THICK_EIGHT = (8, tuple(sorted(CUBE[1] + ((0, 1), (0, 3), (1, 2), (0, 7), (4, 7), (5, 6)))))
# What webs of ten places at most are grown from here, beside random ones.
SOME = [web for web in COVERED if web[0] <= 10] + [PAIR, MORE, LOOSE, FOUR_FULL, THICK_EIGHT]


def slow_places(web, stands):
    return {place for number in stands for place in web[1][number]}


def is_slow_standing(web, stands):
    """Whether what stands is covered: joined, and each tie in a pairing."""
    places = sorted(slow_places(web, stands))
    kept = sorted(stands)
    inner = (len(places), tuple([tuple([places.index(end) for end in web[1][number]]) for number in kept]))
    let = {kept[at] for row in quick_pairings(inner) for at in row}
    met = {places[0]}
    for _ in places:
        met |= {end for number in kept for end in web[1][number] if set(web[1][number]) & met}
    return let == set(kept) and len(met) == len(places)


def slow_way(web, stands, ear):
    """The places that an ear meets, None if it is no ear: it is followed from each place that stands."""
    places = slow_places(web, stands)
    for start in sorted(places):
        met = [start]
        for number in ear:
            met += [end for end in web[1][number] if end != met[-1]] if met[-1] in web[1][number] else [None, None]
        inner = met[1:-1]
        if len(ear) % 2 and None not in met and len(set(met)) == len(met) == len(ear) + 1 and met[-1] in places:
            if not set(inner) & places and len(set(ear)) == len(ear):
                return met
    return None


def is_slow_step(web, stands, step):
    """Whether a step of one or two tuples of numbers of ties can follow."""
    ways = [slow_way(web, stands, ear) for ear in step]
    if None in ways or set(stands) & {number for ear in step for number in ear}:
        return False
    if len(step) == 2:
        if set(ways[0]) & set(ways[1]) or any([is_slow_standing(web, list(stands) + list(ear)) for ear in step]):
            return False
    return is_slow_standing(web, list(stands) + [number for ear in step for number in ear])


def is_slow_row(web, row):
    """Whether a value of the right form is a row of ears."""
    if row[0] >= len(web[1]):
        return False
    stands = [row[0]]
    for step in row[1]:
        if len(step) not in (1, 2) or not is_slow_step(web, stands, step):
            return False
        stands += [number for ear in step for number in ear]
    return sorted(stands) == list(range(len(web[1])))


def all_ears(web, stands):
    """All ears of what stands, told from both ends."""
    places = slow_places(web, stands)
    found = []
    ways = [((), (place,)) for place in sorted(places)]
    while ways:
        longer = []
        for way, met in ways:
            for number, ends in enumerate(web[1]):
                if number not in stands and number not in way and met[-1] in ends:
                    other = sum(ends) - met[-1]
                    if other in places and other != met[0] and len(way) % 2 == 0:
                        found.append(way + (number,))
                    elif other not in places and other not in met:
                        longer.append((way + (number,), met + (other,)))
        ways = longer
    return found


def all_steps(web, stands):
    """All steps that can follow, each ear told from one end."""
    ears = [ear for ear in all_ears(web, stands) if ear <= ear[::-1]]
    return [step for step in [(ear,) for ear in ears] + list(combinations(ears, 2)) if is_slow_step(web, stands, step)]


def slow_least(web):
    """The least number of double steps, by all rows of ears."""
    best = {(number,): 0 for number in range(len(web[1]))}
    waiting = list(best)
    while waiting:
        stands = waiting.pop(0)
        for step in all_steps(web, stands):
            behind = tuple(sorted(stands + tuple([number for ear in step for number in ear])))
            doubles = best[stands] + len(step) - 1
            if behind not in best or doubles < best[behind]:
                best[behind] = doubles
                waiting.append(behind)
    return best[tuple(range(len(web[1])))]


def random_row(web, chance):
    """A row of ears, by chance; single steps are not preferred, so it may have more double steps than needed."""
    while True:
        stands = (chance.randrange(len(web[1])),)
        steps = []
        while len(stands) < len(web[1]):
            found = all_steps(web, stands)
            if not found:
                break
            pairs = [step for step in found if len(step) == 2]
            step = chance.choice(pairs if pairs and chance.random() < 0.5 else found)
            step = tuple([ear[::chance.choice((1, -1))] for ear in chance.sample(step, len(step))])
            steps.append(step)
            stands += tuple([number for ear in step for number in ear])
        if len(stands) == len(web[1]):
            return stands[0], tuple(steps)


def row_with_first_last():
    """A row of ears of the brick LOOSE that puts its first tie in last."""
    first, steps = judge_ears((6, LOOSE[1][1:]), 20)[1]
    steps = tuple([tuple([tuple([number + 1 for number in ear]) for ear in step]) for step in steps])
    return first + 1, steps + (((0,),),)


def doubles_of(row):
    return len([step for step in row[1] if len(step) == 2])


class TestRows(unittest.TestCase):
    def test_random_rows(self):
        chance = random.Random(190)
        for web in SOME[:4] + [web for web in SOME if web[0] > 2 and len(web[1]) <= 15] + covered_webs(191, 40, 8, 13):
            for _ in range(2):
                row = random_row(web, chance)
                self.assertIs(is_row(web, row), True, (web, row))
                self.assertEqual(sum([len(step) for step in row[1]]), len(web[1]) - web[0] + 1)
                self.assertGreaterEqual(doubles_of(row), least_doubles(web))
                for other in self.changed(row, chance):
                    self.assertIs(is_row(web, other), is_slow_row(web, other), (web, other))

    def changed(self, row, chance):
        """Rows of the right form that are otherwise: steps exchanged, split, put together, and ears turned round."""
        first, steps = row
        found = [(at, steps) for at in range(first + 2)]
        ears = [ear for step in steps for ear in step]
        found.append((first, tuple([(ear,) for ear in ears])))
        found.append((first, tuple([step[::-1] for step in steps])))
        found.append((first, tuple([tuple([ear[::-1] for ear in step]) for step in steps])))
        for at, step in enumerate(steps):
            ahead, behind = steps[:at], steps[at + 1:]
            found.extend([(first, ahead + behind), (first, ahead + (step, step) + behind), (first, ahead + (step + step,) + behind),
                          (first, ahead + ((),) + behind), (first, ahead + (step, ()) + behind)])
            found.append((first, ahead + tuple([(ear,) for ear in step]) + behind))
            found.append((first, ahead + tuple([(ear,) for ear in step])[::-1] + behind))
            found.append((first, ahead + ((step[0] + step[-1],),) + behind))
            if behind:
                found.append((first, ahead + (behind[0], step) + behind[1:]))
                found.append((first, ahead + (step + behind[0],) + behind[1:]))
            ear = list(step[0])
            chance.shuffle(ear)
            found.append((first, ahead + ((tuple(ear),) + step[1:],) + behind))
            found.append((first, ahead + ((step[0][1:],) + step[1:],) + behind))
        return found

    def test_all_small_rows(self):
        # All ways to put all ties of small webs in a row of steps.
        for web in (PAIR, TWIN, (2, ((0, 1),) * 3), SQUARE, (4, ((0, 1), (0, 1), (0, 3), (1, 2), (2, 3)))):
            rows = set()
            for numbers in permutations(range(len(web[1]))):
                for cuts in product((0, 1, 2), repeat=max(0, len(numbers) - 2)):
                    rows.add((numbers[0], steps_of(numbers[1:], cuts)))
            right = [row for row in rows if is_slow_row(web, row)]
            self.assertEqual([row for row in rows if is_row(web, row)], right)
            self.assertGreater(len(right), 0)

    def test_known(self):
        self.assertIs(is_row(web=FULL, thing=ROW), True)
        for row, right in (((0, (((1, 5, 4),), ((3,), (2,)))), True), ((0, (((4, 5, 1),), ((2,), (3,)))), True),
                           ((0, (((1, 5, 4),), ((2,),), ((3,),))), False), ((0, (((2,), (3,)), ((1, 5, 4),))), False),
                           ((0, (((1, 5, 4),), ((2, 3),))), False), ((0, (((1, 5, 4), (2,)), ((3,),))), False),
                           ((1, (((1, 5, 4),), ((2,), (3,)))), False), ((0, (((1, 5, 4),),)), False), ((0, ()), False),
                           ((5, (((1, 0, 4),), ((2,), (3,)))), True), ((2, (((0, 4, 5),), ((1,), (3,)))), False)):
            self.assertIs(is_row(FULL, row), right, row)
            if right:
                self.assertTrue(is_slow_row(FULL, row))
        self.assertIs(is_row(PAIR, (0, ())), True)
        self.assertIs(is_row(TWIN, (1, (((0,),),))), True)
        self.assertIs(is_row(TWIN, (1, ())), False)
        self.assertIs(is_row(HEXAGON, (2, (((0, 1, 5, 4, 3),),))), is_slow_row(HEXAGON, (2, (((0, 1, 5, 4, 3),),))))
        self.assertIs(is_row(HEXAGON, (3, (((2, 0, 1, 5, 4),),))), True)
        self.assertIs(is_row(HEXAGON, (3, (((2, 0, 1),), ((5, 4),)))), False)

    def test_two_singles_for_a_double(self):
        # Each of two ears alone may follow, so both together are no double step; and where both are needed, none may.
        web = (4, ((0, 1), (0, 1), (0, 3), (1, 2), (2, 3), (2, 3)))
        self.assertIs(is_row(web, (0, (((2, 4, 3),), ((1,),), ((5,),)))), True)
        self.assertIs(is_row(web, (0, (((2, 4, 3),), ((1,), (5,))))), False)
        self.assertIs(is_row(FULL, ROW), True)

    def test_ears_of_a_double_step_with_a_place_in_common(self):
        for web in (THREES, PRISM, LENS, CUT_PRISM):
            for number in range(len(web[1])):
                stands = (number,)
                for one, other in combinations([ear for ear in all_ears(web, stands) if ear <= ear[::-1]][:12], 2):
                    row = (number, ((one, other),))
                    self.assertIs(is_row(web, row), False)
        # Behind a ring of six places of the prism's, one of its three other ties alone may follow, and two at once may.
        right = 0
        for steps in permutations(((2,), (3,), (8,)), 3):
            for further in ((steps[:2], steps[2:]), (steps[:1], steps[1:]), (steps[:1], steps[1:2], steps[2:])):
                row = (0, (((1, 5, 7, 6, 4),),) + further)
                right += is_slow_row(PRISM, row)
                self.assertIs(is_row(PRISM, row), is_slow_row(PRISM, row))
        self.assertGreater(right, 0)

        # Ears with two places in common that do not stand: both together make a covered web, and neither does alone.
        web = (6, ((0, 1), (0, 3), (0, 4), (1, 2), (1, 4), (2, 3), (2, 5), (3, 5), (4, 5), (4, 5)))
        self.assertTrue(is_slow_standing(web, range(10)))
        for ears in (((2, 8, 6), (4, 9, 7)), ((2, 8, 7), (4, 9, 6)), ((2, 8, 6), (7, 9, 4))):
            self.assertIs(is_row(web, (0, (((1, 5, 3),), ears))), False)

    def test_ears_of_three_ties_and_five(self):
        # Two places, and rows of ties from the one to the other: each row but one or two is an ear.
        for sizes in ((3, 3, 3), (1, 3, 5), (1, 1, 5), (5, 3), (3, 3, 1, 1), (1, 7), (3, 3, 3, 1)):
            pairs = []
            places = 2
            for size in sizes:
                row = [0] + list(range(places, places + size - 1)) + [1]
                pairs += [tuple(sorted(pair)) for pair in zip(row, row[1:])]
                places += size - 1
            web = (places, tuple(sorted(pairs)))
            kind, row = judge_ears(web, 0)
            self.assertEqual(kind, "ears")
            self.assertTrue(is_slow_row(web, row), (web, row))
            self.assertEqual(len(row[1]), len(sizes) - 1)

    def test_greatest_sizes(self):
        chance = random.Random(192)
        for web in [PETERSEN, DOUBLE_PETERSEN, THICK_EIGHT, (2, ((0, 1),) * 30)] + covered_webs(193, 10, 10, 30):
            kind, row = judge_ears(web, 20)
            self.assertEqual(kind, "ears")
            self.assertTrue(is_slow_row(web, row))
            self.assertIs(is_row(web, row), True)
            for other in self.changed(row, chance)[:40]:
                self.assertIs(is_row(web, other), is_slow_row(web, other), (web, other))

    def test_wrong_rows(self):
        for web, row in ((FULL, ROW), (HEXAGON, (3, (((2, 0, 1, 5, 4),),))), (TWIN, (1, (((0,),),))), (PAIR, (0, ()))):
            for value in list(ODD_VALUES) + twisted(row):
                right = repr(value) == repr((0, ())) and web == PAIR
                self.assertIs(is_row(web, value), right, (web, value))
                if not right:
                    expect(self, BadRow, value, pairings_along, web, value)

    def test_errors(self):
        for call, more in ((is_row, (None,)), (is_row, ((0, ()),)), (least_doubles, ()), (judge_ears, (0,)), (judge_ears, (-1,)),
                           (ears_hold, (0, None)), (ears_hold, (None, None)), (pairings_along, (None,))):
            expect_bad_webs(self, BadWeb, call, *more)
        for value in [value for value in ODD_VALUES if isinstance(value, bool) or not isinstance(value, int) or value < 0]:
            expect(self, BadNumber, value, judge_ears, SQUARE, value)
            expect(self, BadNumber, value, ears_hold, SQUARE, value, judge_ears(SQUARE, 0))


def steps_of(numbers, cuts):
    """Steps of ties in a row: 0 puts a tie into the ear ahead of it, 1 into another ear of its step, 2 into a new step."""
    if not numbers:
        return ()
    steps = [[[numbers[0]]]]
    for number, cut in zip(numbers[1:], cuts):
        if cut == 0:
            steps[-1][-1].append(number)
        elif cut == 1:
            steps[-1].append([number])
        else:
            steps.append([[number]])
    return tuple([tuple([tuple(ear) for ear in step]) for step in steps])


class TestDoubles(unittest.TestCase):
    def test_least_by_all_rows(self):
        met = set()
        for web in (PAIR, TWIN, SQUARE, FULL, MORE, HEXAGON, PRISM, LENS, THREES) + tuple(covered_webs(194, 40, 6, 10)):
            right = slow_least(web)
            met.add(right)
            self.assertEqual(least_doubles(web), right, web)
        self.assertLessEqual({0, 1, 2}, met)

    def test_judged(self):
        kinds = {"ears": 0, "pieces": 0}
        for web in SOME + [CUT_PETERSEN] + covered_webs(195, 120, 8, 18):
            least = least_doubles(web)
            self.assertEqual(least, sum(piece_numbers(web)[:2]))
            for k in (0, least - 1, least, least + 1, 20):
                if k < 0:
                    continue
                kind, paper = judge_ears(web, k)
                kinds[kind] += 1
                if kind == "ears":
                    self.assertTrue(is_slow_row(web, paper), (web, paper))
                    self.assertLessEqual(doubles_of(paper), k)
                else:
                    self.assertTrue(is_taking(web, paper))
                    self.assertGreater(least, k)
                self.assertEqual(kind == "ears", least <= k)
                self.assertIs(ears_hold(web, k, (kind, paper)), True)
        self.assertGreater(min(kinds.values()), 60, kinds)

    def test_known(self):
        for web, least in ((PAIR, 0), (SQUARE, 0), (FULL, 1), (PRISM, 1), (LENS, 2), (CUBE, 0), (PETERSEN, 2), (FOUR_FULL, 4),
                           (DOUBLE_PETERSEN, 2), (TIED_PETERSEN, 3)):
            self.assertEqual(least_doubles(web), least, web)
        self.assertEqual(judge_ears(web=FULL, k=0), ("pieces", ("piece",)))
        self.assertEqual(judge_ears(PETERSEN, 1), ("pieces", ("piece",)))
        self.assertEqual(judge_ears(PAIR, 0), ("ears", (0, ())))
        self.assertEqual(judge_ears(FULL, 10 ** 99)[0], "ears")

    def test_two_sided(self):
        for web in SOME + covered_webs(196, 60, 8, 16):
            self.assertEqual(least_doubles(web) == 0, judge_sides(web)[0] == "sides")

    def test_holds(self):
        self.assertIs(ears_hold(web=FULL, k=1, thing=("ears", ROW)), True)
        self.assertIs(ears_hold(FULL, 0, ("ears", ROW)), False)
        self.assertIs(ears_hold(FULL, 7, ("ears", ROW)), True)
        self.assertIs(ears_hold(FULL, 0, ("pieces", ("piece",))), True)
        self.assertIs(ears_hold(FULL, 1, ("pieces", ("piece",))), False)
        self.assertIs(ears_hold(PETERSEN, 1, ("pieces", ("piece",))), True)
        self.assertIs(ears_hold(PETERSEN, 2, ("pieces", ("piece",))), False)
        self.assertIs(ears_hold(SQUARE, 0, ("pieces", ("piece",))), False)
        tree = taking(LENS)
        self.assertEqual([ears_hold(LENS, k, ("pieces", tree)) for k in range(4)], [True, True, False, False])
        self.assertIs(ears_hold(LENS, 0, ("pieces", ("piece",))), False)
        self.assertEqual(len([web for web, _ in leaves(LENS, tree) if is_brick(web)]), 2)

    def test_more_doubles_than_needed(self):
        # The brick without its first tie has two bricks, so a row that puts this tie in last has two double steps.
        self.assertEqual(least_doubles(LOOSE), 1)
        row = row_with_first_last()
        self.assertEqual(doubles_of(row), 2)
        self.assertTrue(is_slow_row(LOOSE, row))
        for k in range(4):
            self.assertIs(ears_hold(LOOSE, k, ("ears", row)), k >= 2)
            self.assertIs(ears_hold(LOOSE, k, judge_ears(LOOSE, 1)), k >= 1)

    def test_wrong_papers(self):
        for web, k, paper in ((FULL, 1, ("ears", ROW)), (FULL, 0, ("pieces", ("piece",))), (LENS, 1, ("pieces", taking(LENS)))):
            self.assertIs(ears_hold(web, k, paper), True)
            for value in list(ODD_VALUES) + twisted(paper) + [("ears", ("piece",)), ("pieces", ROW), ("row", ROW)]:
                self.assertIs(ears_hold(web, k, value), False, (web, value))


class TestPairings(unittest.TestCase):
    def belongs(self, web, row, at, pairing):
        first, steps = row
        stands = {first} | {number for step in steps[:at] for ear in step for number in ear}
        seconds = {number for step in steps[at:] for ear in step for number in ear[1::2]}
        firsts = {ear[0] for ear in steps[at - 1]} if at else set()
        return pairing in quick_pairings(web) and seconds | firsts <= set(pairing) <= stands | seconds

    def test_belong(self):
        chance = random.Random(198)
        met = set()
        for web in [web for web in SOME if len(web[1]) <= 18] + covered_webs(199, 40, 8, 14):
            rows = [judge_ears(web, 20)[1]] + ([random_row(web, chance)] if len(web[1]) <= 14 else [])
            rows += [row_with_first_last()] if web == LOOSE else []
            for row in rows:
                found = pairings_along(web, row)
                self.assertEqual(len(found), len(row[1]) + 1)
                for at, pairing in enumerate(found):
                    self.assertTrue(self.belongs(web, row, at, pairing), (web, row, at, pairing))
                self.assertIs(are_independent(web, found), True)
                self.assertEqual(slow_rank([slow_total(web, ((one, 1),)) for one in found]), len(found))
                extra = doubles_of(row) - piece_numbers(web)[0]
                met.add(extra)
                self.assertEqual(span_number(web) - len(found), extra)
        self.assertLessEqual({0, 1}, met)

    def test_known(self):
        self.assertEqual(pairings_along(web=FULL, row=ROW), ((0, 5), (1, 4), (2, 3)))
        self.assertEqual(pairings_along(PAIR, (0, ())), ((0,),))
        self.assertEqual(pairings_along(TWIN, (1, (((0,),),))), ((1,), (0,)))
        self.assertEqual(pairings_along(HEXAGON, (3, (((2, 0, 1, 5, 4),),))), ((0, 3, 5), (1, 2, 4)))


if __name__ == "__main__":
    unittest.main()
