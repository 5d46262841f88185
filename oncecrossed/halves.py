"""Half corners: odd rings, and ties beside them; and what the stars of single places alone tell of weights."""

from oncecrossed.errors import BadHalf
from oncecrossed.mixes import check_two_places, stars_paper, tells_stars
from oncecrossed.pairings import is_beside
from oncecrossed.spans import check_weights
from oncecrossed.webs import is_pair, is_ring_of, is_told, is_whole, places_but


def places_round(web, ring):
    """The places of a ring of three ties or more, in the order in which it is told."""
    met = [place for place in web[1][ring[0]] if place not in web[1][ring[1]]]
    for number in ring[:-1]:
        met.append(sum(web[1][number]) - met[-1])
    return met


def is_told_ring(web, thing):
    """Whether any value is a ring as half corners have them."""
    if not is_ring_of(web, thing) or len(thing) % 2 == 0:
        return False
    places = places_round(web, thing)
    return places[0] == min(places) and places[1] < places[-1]


def is_half_of(web, thing):
    """Whether any value is a half corner of what is surely a web."""
    if not is_pair(thing) or not isinstance(thing[0], tuple):
        return False
    rings, ties = thing
    if not all([is_told_ring(web, ring) for ring in rings]) or list(rings) != sorted(rings):
        return False
    met = [place for ring in rings for place in places_round(web, ring)]
    return len(set(met)) == len(met) and is_beside(web, met, ties)


def is_half(web, thing):
    """Whether any value is a half corner of a web."""
    check_two_places(web)
    return is_half_of(web, thing)


def half_row(web, half):
    """The row of what is surely a half corner, as a list."""
    rings, ties = half
    row = [0] * len(web[1])
    for number in [number for ring in rings for number in ring]:
        row[number] = 1
    for number in ties:
        row[number] = 2
    return row


def row_of_half(web, half):
    """The weights that are 1 at the ties of a half corner's rings, 2 at its other ties, and 0 at all others."""
    check_two_places(web)
    if not is_half_of(web, half):
        raise BadHalf(half)
    return tuple(half_row(web, half))


def ties_from(web, place, lot):
    """The ties from a place to places of a lot, each with the place to which it leads."""
    ways = [(number, a + b - place) for number, (a, b) in enumerate(web[1]) if place in (a, b)]
    return [(number, other) for number, other in ways if other in lot]


def rings_at(web, lot):
    """The rings, as half corners have them, of the first place of a lot and others of it, each with its places."""
    found = []
    ways = [((), lot[:1])]
    while ways:
        longer = []
        for way, met in ways:
            for number, other in ties_from(web, met[-1], lot):
                if other not in met:
                    longer.append((way + (number,), met + (other,)))
                elif other == lot[0] and len(met) % 2 == 1 and met[1] < met[-1]:
                    found.append((way + (number,), met))
        ways = longer
    return found


def halves_in(web, lot):
    """The half corners of the places of a lot: its first place lies in a ring, or is an end of a tie."""
    if not lot:
        return [((), ())]
    found = []
    for number, other in ties_from(web, lot[0], lot):
        left = tuple([place for place in lot[1:] if place != other])
        found.extend([(rings, (number,) + ties) for rings, ties in halves_in(web, left)])
    for ring, met in rings_at(web, lot):
        left = tuple([place for place in lot if place not in met])
        found.extend([((ring,) + rings, ties) for rings, ties in halves_in(web, left)])
    return found


def halves(web):
    """All half corners of a web, ascending."""
    check_two_places(web)
    # A ring or tie that has a lesser place has a lesser number, too, so those of each half corner ascend.
    return tuple(sorted(halves_in(web, places_but(web, ()))))


def halved(web, weights):
    """An integer above 0, and half corners with multipliers, whose total is so many times weights.

    The weights have equal sums over all stars, and none is below 0. Of each half corner so much is taken that one of
    its ties has nothing left; so nothing is left at the end, since what is left would have another half corner.
    """
    times = 1
    left = list(weights)
    taken = []
    for half in halves(web):
        row = half_row(web, half)
        share = min([left[at] * 2 // many for at, many in enumerate(row) if many])
        if share % 2:
            times = 2 * times
            left = [2 * weight for weight in left]
            taken = [(other, 2 * many) for other, many in taken]
            share = 2 * share
        if share:
            left = [weight - share // 2 * many for weight, many in zip(left, row)]
            taken.append((half, share // 2))
    return times, tuple(taken)


def judge_halves(web, weights):
    """A certificate: half corners that make a multiple of weights, a tie below 0, or two stars with unlike sums."""
    check_two_places(web)
    check_weights(web, weights)
    paper = stars_paper(web, weights)
    if paper is not None:
        return paper
    times, rows = halved(web, weights)
    return ("halves", times, rows)


def is_half_term(web, thing):
    """Whether any value is a pair of a half corner and an integer above 0."""
    return is_pair(thing) and is_half_of(web, thing[0]) and is_whole(thing[1]) and thing[1] > 0


def are_halved(web, weights, times, rows):
    """Whether any two values are an integer above 0, and half corners whose total is so many times weights."""
    if not is_whole(times) or times <= 0 or not isinstance(rows, tuple):
        return False
    if not all([is_half_term(web, row) for row in rows]):
        return False
    ones = [half for half, _ in rows]
    if ones != sorted(set(ones)):
        return False
    made = [0] * len(weights)
    for half, many in rows:
        made = [sums + many * more for sums, more in zip(made, half_row(web, half))]
    return made == [times * weight for weight in weights]


def halves_hold(web, weights, thing):
    """Whether any value is a certificate as judge_halves returns one."""
    check_two_places(web)
    check_weights(web, weights)
    if is_told(thing, "halves", 3):
        return are_halved(web, weights, thing[1], thing[2])
    return tells_stars(web, weights, thing)


def ringed_half(web):
    """A half corner with rings, with as few rings as can be, None if there is none."""
    ringed = [(len(rings), (rings, ties)) for rings, ties in halves(web) if rings]
    if not ringed:
        return None
    return min(ringed)[1]
