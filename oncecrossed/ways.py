"""Ways from pairing to pairing by turnings of short rings, and why there is none."""

from oncecrossed.errors import BadNumber
from oncecrossed.pairings import is_pairing_of, pairings
from oncecrossed.turnings import check_most, check_pairings, parting_size
from oncecrossed.webs import check_tie, check_web, is_below, is_told, is_whole

MOST_STEPS = 1000


def are_near(web, one, other, most):
    """Whether what surely are two pairings are neighbours by a ring of at most so many ties."""
    return 0 < parting_size(web, one, other) <= most


def ways_of(web, one, most):
    """For each pairing to which a way leads from a pairing, a shortest one; the nearest ones first."""
    ways = {one: (one,)}
    left = [pairing for pairing in pairings(web) if pairing != one]
    fresh = [one]
    while fresh:
        met = []
        for pairing in left:
            near = [ahead for ahead in fresh if are_near(web, ahead, pairing, most)]
            if near:
                ways[pairing] = ways[near[0]] + (pairing,)
                met.append(pairing)
        left = [pairing for pairing in left if pairing not in ways]
        fresh = met
    return ways


def herd_of(web, one, most):
    """The herd of a pairing, ascending."""
    return tuple(sorted(ways_of(web, one, most)))


def is_way(web, one, most, thing):
    """Whether any value is a tuple of pairings that is a way from a pairing to its last one."""
    if not isinstance(thing, tuple) or len(thing) == 0:
        return False
    if not all([is_pairing_of(web, pairing) for pairing in thing]) or thing[0] != one:
        return False
    return all([are_near(web, pairing, other, most) for pairing, other in zip(thing, thing[1:])])


def is_way_to(web, one, other, most, thing):
    """Whether any value is a way from the one pairing to the other one."""
    return is_way(web, one, most, thing) and thing[-1] == other


def is_shut(web, one, most, thing):
    """Whether any value is a shut tuple of pairings that has a pairing."""
    if not isinstance(thing, tuple) or not all([is_pairing_of(web, pairing) for pairing in thing]):
        return False
    if list(thing) != sorted(set(thing)) or one not in thing:
        return False
    outside = [pairing for pairing in pairings(web) if pairing not in thing]
    return not any([are_near(web, pairing, other, most) for pairing in thing for other in outside])


def check_two_ways(web, one, other, most):
    """Raises BadWeb, BadPairing and BadNumber for what are no web, no pairings of it, or no greatest number of ties."""
    check_pairings(web, (one, other))
    check_most(most)


def check_within(web, one, other, most, steps):
    """The same, and BadNumber with any value as steps that is no integer from 0 to 1,000."""
    check_two_ways(web, one, other, most)
    if not is_below(steps, MOST_STEPS + 1):
        raise BadNumber(steps)


def steps_between(web, one, other, most):
    """The least number of steps of a way from the one pairing to the other one, None if there is none."""
    check_two_ways(web, one, other, most)
    ways = ways_of(web, one, most)
    if other not in ways:
        return None
    return len(ways[other]) - 1


def judge_within(web, one, other, most, steps):
    """A certificate: a way with at most so many steps, or numbers that rise by 1 at most along each step."""
    check_within(web, one, other, most, steps)
    ways = ways_of(web, one, most)
    if other in ways and len(ways[other]) <= steps + 1:
        return ("way", ways[other])
    # Where no way leads, and where each has more steps, the number is one more than is allowed.
    heights = [len(ways[row]) - 1 if row in ways else steps + 1 for row in pairings(web)]
    return ("heights", tuple([min(height, steps + 1) for height in heights]))


def are_heights(web, one, other, most, steps, thing):
    """Whether any value is numbers for all pairings as in a certificate of the kind "heights"."""
    rows = pairings(web)
    if not isinstance(thing, tuple) or len(thing) != len(rows) or not all([is_whole(height) for height in thing]):
        return False
    heights = list(zip(rows, thing))
    if heights[rows.index(one)][1] != 0 or heights[rows.index(other)][1] <= steps:
        return False
    # A step that rises by more than 1 must not be one between neighbours.
    return not any([far - near > 1 and are_near(web, row, further, most)
                    for row, near in heights for further, far in heights])


def within_holds(web, one, other, most, steps, thing):
    """Whether any value is a certificate as judge_within returns one."""
    check_within(web, one, other, most, steps)
    if is_told(thing, "way", 2):
        return is_way_to(web, one, other, most, thing[1]) and len(thing[1]) <= steps + 1
    return is_told(thing, "heights", 2) and are_heights(web, one, other, most, steps, thing[1])


def herds(web, most):
    """All herds of the pairings of a web, ascending."""
    check_web(web)
    check_most(most)
    found = []
    left = pairings(web)
    while left:
        herd = herd_of(web, left[0], most)
        found.append(herd)
        left = tuple([pairing for pairing in left if pairing not in herd])
    return tuple(found)


def judge_herd(web, one, other, most):
    """A certificate: a way from the one pairing to the other one, or a shut tuple that has only the one."""
    check_two_ways(web, one, other, most)
    ways = ways_of(web, one, most)
    if other in ways:
        return ("way", ways[other])
    return ("shut", tuple(sorted(ways)))


def herd_holds(web, one, other, most, thing):
    """Whether any value is a certificate as judge_herd returns one."""
    check_two_ways(web, one, other, most)
    if is_told(thing, "way", 2):
        return is_way_to(web, one, other, most, thing[1])
    return is_told(thing, "shut", 2) and is_shut(web, one, most, thing[1]) and other not in thing[1]


def are_alike_at(rows, number):
    """Whether all of some pairings have a tie, or none of them has it."""
    return len(set([number in row for row in rows])) == 1


def fast_ties(web, pairing, most):
    """The numbers of all ties that all pairings of a pairing's herd have, or none of them, ascending."""
    check_two_ways(web, pairing, pairing, most)
    herd = herd_of(web, pairing, most)
    return tuple([number for number in range(len(web[1])) if are_alike_at(herd, number)])


def check_fast(web, pairing, number, most):
    """Raises BadWeb, BadPairing, BadTie and BadNumber for what are no web, no pairing, no tie, or no number of ties."""
    check_pairings(web, (pairing,))
    check_tie(web, number)
    check_most(most)


def judge_fast(web, pairing, number, most):
    """A certificate: a way to a pairing that differs at a tie, or a shut tuple of pairings that do not."""
    check_fast(web, pairing, number, most)
    ways = ways_of(web, pairing, most)
    for other in sorted(ways):
        if (number in other) != (number in pairing):
            return ("free", ways[other])
    return ("fast", tuple(sorted(ways)))


def fast_holds(web, pairing, number, most, thing):
    """Whether any value is a certificate as judge_fast returns one."""
    check_fast(web, pairing, number, most)
    if is_told(thing, "free", 2):
        return is_way(web, pairing, most, thing[1]) and (number in thing[1][-1]) != (number in pairing)
    return is_told(thing, "fast", 2) and is_shut(web, pairing, most, thing[1]) and are_alike_at(thing[1], number)
