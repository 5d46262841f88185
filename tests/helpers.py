"""Webs, wrong values and slow but plain counterparts for the tests."""

import random
from fractions import Fraction
from itertools import combinations, permutations, product

from oncecrossed.workshops import Workshop

FULL = (4, ((0, 1), (0, 2), (0, 3), (1, 2), (1, 3), (2, 3)))
SQUARE = (4, ((0, 1), (0, 3), (1, 2), (2, 3)))
TRIANGLE = (3, ((0, 1), (0, 2), (1, 2)))
LINE = (4, ((0, 1), (1, 2), (2, 3)))
STAR = (4, ((0, 1), (0, 2), (0, 3)))
TWIN = (2, ((0, 1), (0, 1)))
ONE = (1, ())
BARE = (12, ())
HEXAGON = (6, ((0, 1), (0, 5), (1, 2), (2, 3), (3, 4), (4, 5)))
PRISM = (6, ((0, 1), (0, 2), (0, 3), (1, 2), (1, 4), (2, 5), (3, 4), (3, 5), (4, 5)))
PENTAGON = (5, ((0, 1), (0, 4), (1, 2), (2, 3), (3, 4)))
PETERSEN = (10, ((0, 1), (0, 4), (0, 5), (1, 2), (1, 6), (2, 3), (2, 7), (3, 4), (3, 8), (4, 9), (5, 7), (5, 8),
                 (6, 8), (6, 9), (7, 9)))
TWO_SQUARES = (8, ((0, 2), (0, 6), (1, 3), (1, 7), (2, 4), (3, 5), (4, 6), (5, 7)))
TWO_TRIANGLES = (6, ((0, 1), (0, 2), (1, 2), (3, 4), (3, 5), (4, 5)))
LENS = (6, ((0, 1), (0, 2), (0, 3), (0, 4), (0, 5), (1, 2), (1, 3), (1, 4), (1, 5), (2, 3), (4, 5)))
# Two sides of three places, all tied; the corners of a cube; a ring of five round a place; a prism with a third triangle.
THREES = (6, tuple([(a, b) for a in range(3) for b in range(3, 6)]))
CUBE = (8, ((0, 1), (0, 2), (0, 4), (1, 3), (1, 5), (2, 3), (2, 6), (3, 7), (4, 5), (4, 6), (5, 7), (6, 7)))
WHEEL = (6, ((0, 1), (0, 2), (0, 3), (0, 4), (0, 5), (1, 2), (1, 5), (2, 3), (3, 4), (4, 5)))
CUT_PRISM = (8, ((0, 1), (0, 2), (0, 6), (1, 2), (1, 7), (2, 5), (3, 4), (3, 5), (3, 6), (4, 5), (4, 7), (6, 7)))
# The Petersen web with its place 9 made a triangle (a brick), made three places in a row (so 9 and 10 are a barrier),
# and with a full web of four places laid along its tie between 0 and 1 (so these two places part it).
CUT_PETERSEN = (12, PETERSEN[1][:13] + ((6, 10), (7, 11), (9, 10), (9, 11), (10, 11)))
SPLIT_PETERSEN = (12, PETERSEN[1][:14] + ((7, 10), (9, 11), (10, 11)))
TIED_PETERSEN = (12, tuple(sorted(PETERSEN[1] + ((0, 10), (0, 11), (1, 10), (1, 11), (10, 11)))))
DOUBLE_PETERSEN = (10, tuple(sorted(PETERSEN[1] * 2)))
# Twelve places round, with two ties to each of the next ones and one to the opposite one.
BIG_RING = (12, tuple(sorted([(a, a + 1) for a in range(11)] * 2 + [(0, 11), (0, 11)] + [(a, a + 6) for a in range(6)])))
# Twelve places round, with so many ties to the next ones that the web has 30 ties and 1,736 pairings.
THICK_RING = (12, tuple(sorted([ends for ends, many in zip([(a, a + 1) for a in range(11)] + [(0, 11)],
                                                           (4, 2, 4, 2, 4, 2, 3, 1, 3, 1, 3, 1)) for _ in range(many)])))
LADDER = (12, tuple(sorted([(a, a + 6) for a in range(6)] + [(a, a + 1) for a in range(11) if a != 5] * 2)))
COVERED = ((2, ((0, 1),)), TWIN, (2, ((0, 1),) * 30), SQUARE, FULL, HEXAGON, PRISM, LENS, THREES, CUBE, WHEEL, CUT_PRISM,
           PETERSEN, CUT_PETERSEN, SPLIT_PETERSEN, TIED_PETERSEN, DOUBLE_PETERSEN, BIG_RING, LADDER, (4, ((0, 1), (0, 1), (0, 3), (0, 3), (1, 2), (2, 3), (2, 3))))


def big_web():
    """A web of 12 places and 40 ties, some of them doubled."""
    pairs = [(a, b) for a, b in combinations(range(12), 2) if (a + b) % 3 != 0][:34]
    return (12, tuple(sorted(pairs + pairs[:6])))


WEBS = (ONE, BARE, (2, ()), (2, ((0, 1),)), TWIN, TRIANGLE, LINE, STAR, SQUARE, FULL, PENTAGON, HEXAGON, PRISM,
        TWO_SQUARES, TWO_TRIANGLES, PETERSEN, big_web(), (3, ((0, 2),)), (4, ((0, 1), (0, 1), (2, 3), (2, 3), (2, 3))),
        (5, ((0, 3), (0, 3), (1, 2), (1, 4), (2, 4))))

NOT_COVERED = (ONE, BARE, (2, ()), TRIANGLE, LINE, STAR, TWO_SQUARES, TWO_TRIANGLES, (4, ((0, 1), (2, 3))),
               (4, ((0, 1), (0, 1), (2, 3), (2, 3), (2, 3))), (6, PRISM[1][:6] + PRISM[1][7:]), (10, PETERSEN[1][:9]))

# A workshop is a value, too, and none that is asked for anywhere.
SHOP = Workshop((2, ((0, 1),)), strict=True)

NOT_WEBS = (SHOP, (SHOP, ()), (2, SHOP), (2, (SHOP,)), (2, ((0, SHOP),)), (2, ((0, 1), SHOP)), [SHOP], (SHOP, SHOP), None, True, False, 0, 1, 2, -5, 10 ** 99, "", "web", "places 1", (), [], {}, (1,), [1, ()], (1, ()) * 2,
            (1, (), ()), (True, ()), (False, ()), (0, ()), (-1, ()), (13, ()), (10 ** 99, ()), ("1", ()), (None, ()),
            (1, []), (1, {}), (1, None), (1, ""), (1, 0), ((), 1), (1, ((0, 0),)), (1, ((0, 1),)),
            (2, [(0, 1)]), (2, ([0, 1],)), (2, ((1, 0),)), (2, ((0, 0),)), (2, ((0, 2),)), (2, ((-1, 1),)),
            (2, ((False, 1),)), (2, ((0, True),)), (2, ((0, 1, 1),)), (2, ((0,),)), (2, ((),)), (2, (0, 1)),
            (2, ("01",)), (2, (("0", "1"),)), (2, ((None, 1),)), (2, ((0, 1), None)), (2, ((0, 1), (0, 1), [0, 1])),
            (3, ((0, 2), (0, 1))), (3, ((1, 2), (0, 1))), (2, {(0, 1): 1}), {2: ((0, 1),)}, [2, ((0, 1),)],
            (2, ((0, 10 ** 99),)), (((((), ((),)),), {"a": [1]}), [[[]]]), "2" * 2000, (2, (True, False)),
            (2, (((0,), (1,)),)), ((2,), ((0, 1),)))

ODD_VALUES = (SHOP, (SHOP,), [SHOP], {0: SHOP}, (SHOP, ()), ("lot", SHOP), ("pairing", (SHOP,)), ((SHOP,), 1), None, True, False, 0, 1, -1, 7, 10 ** 99, -10 ** 99, "", "a", "sides", "pairing", "lot", "\n", (), [], {},
              [0], [0, 1], {0: 1}, (0,), (1, 0), (0, 0), (0, 1), (0, 1, 2), (True,), (False,), (False, True), (0, True),
              (None,), ("0",), ("a", "b"), ((),), ((0, 1),), ([0],), ({},), (-1,), (-1, 0), (12,), (0, 12),
              (10 ** 99,), (0, None), (0, "1"), (0, [1]), ("sides",), ("sides", ()), ("sides", []), ("ring", ()),
              ("ring", (0, 1)), ("pairing",), ("pairing", ()), ("lot", ()), ("lot", []), ("parts",), ("covered",),
              ("covered", ()), ("none", ()), ("tie", 0, ()), ("tie", 0, (0, 1)), ((((((((((((),),),),),),),),),),),),
              tuple(range(3000)), (0,) * 3000, ("lot", (), ()), (("lot",), ()), (["lot"], ()), ({}, ()), (0, ()))


def all_lots(web):
    """All lots of a web."""
    return [lot for many in range(web[0] + 1) for lot in combinations(range(web[0]), many)]


def random_web(chance, most_places, most_ties):
    """A web, by a random source with a fixed seed."""
    places = chance.randint(1, most_places)
    pairs = list(combinations(range(places), 2))
    many = chance.randint(0, most_ties) if pairs else 0
    return (places, tuple(sorted([chance.choice(pairs) for _ in range(many)])))


def random_webs(seed, many, most_places, most_ties):
    """Some webs, the same ones each time."""
    chance = random.Random(seed)
    return [random_web(chance, most_places, most_ties) for _ in range(many)]


def covered_part(web):
    """A web of what lies in pairings, for the places that are joined with the place 0 by it; None without pairings."""
    let = {number for row in quick_pairings(web) for number in row}
    if not let:
        return None
    left = (web[0], tuple([web[1][number] for number in sorted(let)]))
    names = {place: at for at, place in enumerate(slow_parts(left)[0])}
    return (len(names), tuple([(names[a], names[b]) for a, b in left[1] if a in names]))


def covered_webs(seed, many, most_places, most_ties):
    """Some covered webs within the limits, the same ones each time."""
    chance = random.Random(seed)
    found = []
    while len(found) < many:
        places = 2 * chance.randint(1, most_places // 2)
        pairs = list(combinations(range(places), 2))
        if chance.random() < 0.4:
            pairs = [(a, b) for a, b in pairs if (a + b) % 2]
        ties = [chance.choice(pairs) for _ in range(chance.randint(places // 2, most_ties))]
        web = covered_part((places, tuple(sorted(ties))))
        if web and len(quick_pairings(web)) <= 2000:
            found.append(slow_led(web, chance.sample(range(web[0]), web[0])))
    return found


def twisted(value):
    """Values like a tuple of integers and tuples, each of another kind or with one part otherwise."""
    found = [list(value), value + (None,), [value], (value,)]
    for at, part in enumerate(value):
        ahead, behind = value[:at], value[at + 1:]
        found.extend([ahead + behind, ahead + (SHOP,) + behind])
        if isinstance(part, tuple):
            found.extend([ahead + (other,) + behind for other in twisted(part)])
        elif isinstance(part, int):
            found.extend([ahead + (other,) + behind for other in (str(part), None, -1, 99, (part,)) if other != part])
            found.extend([ahead + (bool(part),) + behind] if part in (0, 1) else [])
        else:
            found.extend([ahead + (other,) + behind for other in (part + " ", None, 0, (part,))])
    return found


def slow_parts(web):
    """The parts of a web: lots are melted as long as a tie leads from one to another."""
    parts = [{place} for place in range(web[0])]
    for a, b in web[1]:
        one, other = [[part for part in parts if place in part][0] for place in (a, b)]
        if one is not other:
            parts.remove(other)
            one |= other
    return tuple(sorted([tuple(sorted(part)) for part in parts]))


def slow_rings(web):
    """All rings of a web, by all rows of unlike places."""
    places, ties = web
    between = {(a, b): [] for a in range(places) for b in range(places)}
    for number, (a, b) in enumerate(ties):
        between[a, b].append(number)
        between[b, a].append(number)
    rings = set()
    for many in range(2, places + 1):
        for row in permutations(range(places), many):
            choices = [between[row[at], row[(at + 1) % many]] for at in range(many)]
            rings |= {ring for ring in product(*choices) if len(set(ring)) == many}
    return rings


def slow_led(web, renaming):
    """The web in which each place has another name."""
    return (web[0], tuple(sorted([tuple(sorted([renaming[a], renaming[b]])) for a, b in web[1]])))


def slow_pairings(web):
    """All pairings of a web, by all rows of half as many ties as places."""
    places, ties = web
    found = []
    for row in combinations(range(len(ties)), places // 2):
        met = [place for number in row for place in ties[number]]
        if sorted(met) == list(range(places)):
            found.append(row)
    return tuple(found)


def quick_pairings(web):
    """All pairings of a web, by the partners of its least places first; ascending."""
    ties = [(number, 1 << a, 1 << b) for number, (a, b) in enumerate(web[1])]
    rows = [(0, ())]
    for place in range(web[0]):
        grown = [(mask, row) for mask, row in rows if mask >> place & 1]
        for mask, row in rows:
            if not mask >> place & 1:
                steps = [(number, b) for number, a, b in ties if a == 1 << place and not mask & b]
                grown.extend([(mask | 1 << place | b, row + (number,)) for number, b in steps])
        rows = grown
    return tuple(sorted([row for _, row in rows]))


def slow_cut(web, lot):
    """The numbers of all ties with just one end in a lot."""
    return [number for number, ends in enumerate(web[1]) if len(set(ends) & set(lot)) == 1]


def slow_tight(web, lot):
    """Whether each pairing has just one tie of a lot's cut."""
    cut = set(slow_cut(web, lot))
    return all([len(cut & set(row)) == 1 for row in quick_pairings(web)])


def slow_inner(web):
    """All inner tight lots of a web that have the place 0."""
    rows = [set(row) for row in quick_pairings(web)]
    found = []
    for lot in all_lots(web):
        if 0 in lot and 3 <= len(lot) <= web[0] - 3:
            cut = set(slow_cut(web, lot))
            found += [lot] if all([len(cut & row) == 1 for row in rows]) else []
    return tuple(sorted(found))


def slow_laid(web, lot):
    """A lot laid together: each tie is looked for among those between the two places that it then ties."""
    names = [place for place in range(web[0]) if place not in lot] + ["lot"]
    called = [["lot" if place in lot else place for place in ends] for ends in web[1]]
    pairs = []
    for a in range(len(names)):
        for b in range(a + 1, len(names)):
            for number, ends in enumerate(called):
                if sorted(ends, key=str) == sorted([names[a], names[b]], key=str):
                    pairs.append(((a, b), number))
    return (len(names), tuple([ends for ends, _ in pairs])), tuple([number for _, number in pairs])


def slow_total(web, terms):
    """The sum of the rows of pairings, each times its integer."""
    return tuple([sum([many for row, many in terms if number in row]) for number in range(len(web[1]))])


def slow_sum(web, weights, lot):
    """The sum of weights over a lot's cut."""
    return sum([weights[number] for number in slow_cut(web, lot)])


def slow_rank(rows):
    """How many of some tuples of integers are independent, by fractions."""
    left = [[Fraction(item) for item in row] for row in rows]
    many = 0
    for at in range(len(left[0]) if left else 0):
        for row in left[many:]:
            if row[at]:
                left.remove(row)
                left.insert(many, row)
                many += 1
                left[many:] = [[item - other[at] / row[at] * first for item, first in zip(other, row)]
                               for other in left[many:]]
                break
    return many


def is_slow_terms(web, terms):
    """Whether a value of the right form is terms."""
    ones = [row for row, _ in terms]
    right = quick_pairings(web)
    return ones == sorted(set(ones)) and all([row in right and many for row, many in terms])


def slow_odd_rests(web, lot):
    """How many parts of a web without a lot are odd, the places of the lot being left aside."""
    bared = (web[0], tuple([(a, b) for a, b in web[1] if a not in lot and b not in lot]))
    return len([part for part in slow_parts(bared) if len(part) % 2 == 1 and part[0] not in lot])


def expect(case, kind, told, call, *values):
    """Fails if a call does not raise an error of just this kind that tells just this value."""
    try:
        found = call(*values)
    except Exception as error:
        case.assertIs(error.__class__, kind, (call, values))
        case.assertEqual(len(vars(error)), 1, (call, values))
        case.assertIs(list(vars(error).values())[0], told, (call, values))
        return
    case.fail(f"{call.__name__}{values} returned {found!r}")


def expect_bad_webs(case, kind, call, *values):
    """Fails if a call does not raise an error with each value in the place of a covered web."""
    for web in NOT_WEBS + NOT_COVERED:
        expect(case, kind, web, call, web, *values)
