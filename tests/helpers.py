"""Webs, wrong values and slow but plain counterparts for the tests."""

import random
from itertools import combinations, permutations, product

FULL = (4, ((0, 1), (0, 2), (0, 3), (1, 2), (1, 3), (2, 3)))
SQUARE = (4, ((0, 1), (0, 3), (1, 2), (2, 3)))
TRIANGLE = (3, ((0, 1), (0, 2), (1, 2)))
LINE = (4, ((0, 1), (1, 2), (2, 3)))
STAR = (4, ((0, 1), (0, 2), (0, 3)))
TWIN = (2, ((0, 1), (0, 1)))
ONE = (1, ())
BARE = (12, ())
HEXAGON = (6, ((0, 1), (0, 5), (1, 2), (2, 3), (3, 4), (4, 5)))
PRISM = (6, ((0, 1), (0, 2), (0, 3), (1, 2), (1, 4), (2, 5), (3, 4), (3, 5), (4, 5)))
PENTAGON = (5, ((0, 1), (0, 4), (1, 2), (2, 3), (3, 4)))
PETERSEN = (10, ((0, 1), (0, 4), (0, 5), (1, 2), (1, 6), (2, 3), (2, 7), (3, 4), (3, 8), (4, 9), (5, 7), (5, 8),
                 (6, 8), (6, 9), (7, 9)))
TWO_SQUARES = (8, ((0, 2), (0, 6), (1, 3), (1, 7), (2, 4), (3, 5), (4, 6), (5, 7)))
TWO_TRIANGLES = (6, ((0, 1), (0, 2), (1, 2), (3, 4), (3, 5), (4, 5)))


def big_web():
    """A web of 12 places and 40 ties, some of them doubled."""
    pairs = [(a, b) for a, b in combinations(range(12), 2) if (a + b) % 3 != 0][:34]
    return (12, tuple(sorted(pairs + pairs[:6])))


WEBS = (ONE, BARE, (2, ()), (2, ((0, 1),)), TWIN, TRIANGLE, LINE, STAR, SQUARE, FULL, PENTAGON, HEXAGON, PRISM,
        TWO_SQUARES, TWO_TRIANGLES, PETERSEN, big_web(), (3, ((0, 2),)), (4, ((0, 1), (0, 1), (2, 3), (2, 3), (2, 3))),
        (5, ((0, 3), (0, 3), (1, 2), (1, 4), (2, 4))))

NOT_WEBS = (None, True, False, 0, 1, 2, -5, 10 ** 99, "", "web", "places 1", (), [], {}, (1,), [1, ()], (1, ()) * 2,
            (1, (), ()), (True, ()), (False, ()), (0, ()), (-1, ()), (13, ()), (10 ** 99, ()), ("1", ()), (None, ()),
            (1, []), (1, {}), (1, None), (1, ""), (1, 0), ((), 1), (1, ((0, 0),)), (1, ((0, 1),)),
            (2, [(0, 1)]), (2, ([0, 1],)), (2, ((1, 0),)), (2, ((0, 0),)), (2, ((0, 2),)), (2, ((-1, 1),)),
            (2, ((False, 1),)), (2, ((0, True),)), (2, ((0, 1, 1),)), (2, ((0,),)), (2, ((),)), (2, (0, 1)),
            (2, ("01",)), (2, (("0", "1"),)), (2, ((None, 1),)), (2, ((0, 1), None)), (2, ((0, 1), (0, 1), [0, 1])),
            (3, ((0, 2), (0, 1))), (3, ((1, 2), (0, 1))), (2, {(0, 1): 1}), {2: ((0, 1),)}, [2, ((0, 1),)],
            (2, ((0, 10 ** 99),)), (((((), ((),)),), {"a": [1]}), [[[]]]), "2" * 2000, (2, (True, False)),
            (2, (((0,), (1,)),)), ((2,), ((0, 1),)))

ODD_VALUES = (None, True, False, 0, 1, -1, 7, 10 ** 99, -10 ** 99, "", "a", "sides", "pairing", "lot", "\n", (), [], {},
              [0], [0, 1], {0: 1}, (0,), (1, 0), (0, 0), (0, 1), (0, 1, 2), (True,), (False,), (False, True), (0, True),
              (None,), ("0",), ("a", "b"), ((),), ((0, 1),), ([0],), ({},), (-1,), (-1, 0), (12,), (0, 12),
              (10 ** 99,), (0, None), (0, "1"), (0, [1]), ("sides",), ("sides", ()), ("sides", []), ("ring", ()),
              ("ring", (0, 1)), ("pairing",), ("pairing", ()), ("lot", ()), ("lot", []), ("parts",), ("covered",),
              ("covered", ()), ("none", ()), ("tie", 0, ()), ("tie", 0, (0, 1)), ((((((((((((),),),),),),),),),),),),
              tuple(range(3000)), (0,) * 3000, ("lot", (), ()), (("lot",), ()), (["lot"], ()), ({}, ()), (0, ()))


def all_lots(web):
    """All lots of a web."""
    return [lot for many in range(web[0] + 1) for lot in combinations(range(web[0]), many)]


def random_web(chance, most_places, most_ties):
    """A web, by a random source with a fixed seed."""
    places = chance.randint(1, most_places)
    pairs = list(combinations(range(places), 2))
    many = chance.randint(0, most_ties) if pairs else 0
    return (places, tuple(sorted([chance.choice(pairs) for _ in range(many)])))


def random_webs(seed, many, most_places, most_ties):
    """Some webs, the same ones each time."""
    chance = random.Random(seed)
    return [random_web(chance, most_places, most_ties) for _ in range(many)]


def twisted(value):
    """Values like a tuple of integers and tuples, each of another kind or with one part otherwise."""
    found = [list(value), value + (None,), [value], (value,)]
    for at, part in enumerate(value):
        ahead, behind = value[:at], value[at + 1:]
        found.append(ahead + behind)
        if isinstance(part, tuple):
            found.extend([ahead + (other,) + behind for other in twisted(part)])
        elif isinstance(part, int):
            found.extend([ahead + (other,) + behind for other in (str(part), None, -1, 99, (part,))])
            found.extend([ahead + (bool(part),) + behind] if part in (0, 1) else [])
        else:
            found.extend([ahead + (other,) + behind for other in (part + " ", None, 0, (part,))])
    return found


def slow_parts(web):
    """The parts of a web: lots are melted as long as a tie leads from one to another."""
    parts = [{place} for place in range(web[0])]
    for a, b in web[1]:
        one, other = [[part for part in parts if place in part][0] for place in (a, b)]
        if one is not other:
            parts.remove(other)
            one |= other
    return tuple(sorted([tuple(sorted(part)) for part in parts]))


def slow_rings(web):
    """All rings of a web, by all rows of unlike places."""
    places, ties = web
    between = {(a, b): [] for a in range(places) for b in range(places)}
    for number, (a, b) in enumerate(ties):
        between[a, b].append(number)
        between[b, a].append(number)
    rings = set()
    for many in range(2, places + 1):
        for row in permutations(range(places), many):
            choices = [between[row[at], row[(at + 1) % many]] for at in range(many)]
            rings |= {ring for ring in product(*choices) if len(set(ring)) == many}
    return rings


def slow_led(web, renaming):
    """The web in which each place has another name."""
    return (web[0], tuple(sorted([tuple(sorted([renaming[a], renaming[b]])) for a, b in web[1]])))


def slow_pairings(web):
    """All pairings of a web, by all rows of half as many ties as places."""
    places, ties = web
    found = []
    for row in combinations(range(len(ties)), places // 2):
        met = [place for number in row for place in ties[number]]
        if sorted(met) == list(range(places)):
            found.append(row)
    return tuple(found)


def slow_odd_rests(web, lot):
    """How many parts of a web without a lot are odd, the places of the lot being left aside."""
    bared = (web[0], tuple([(a, b) for a, b in web[1] if a not in lot and b not in lot]))
    return len([part for part in slow_parts(bared) if len(part) % 2 == 1 and part[0] not in lot])
