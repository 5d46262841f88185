"""Rings that turn pairings into others, and what parts two pairings."""

from oncecrossed.covered import covered_parts
from oncecrossed.errors import BadNumber, BadPairing, BadRing
from oncecrossed.pairings import is_pairing_of, pairings
from oncecrossed.spans import span_number
from oncecrossed.webs import check_web, is_ring_of, is_whole


def check_pairings(web, ones):
    """Raises BadWeb with any value that is no web, and BadPairing with the first one that is no pairing of it."""
    check_web(web)
    for thing in ones:
        if not is_pairing_of(web, thing):
            raise BadPairing(thing)


def check_most(most):
    """Raises BadNumber with any value that is no even integer from 2 to 12."""
    if not is_whole(most) or not 2 <= most <= 12 or most % 2:
        raise BadNumber(most)


def told_plainly(ring):
    """A ring, told from its least number on, and from there towards the lesser one of the two next numbers."""
    at = ring.index(min(ring))
    ahead = ring[at:] + ring[:at]
    return min(ahead, ahead[:1] + ahead[1:][::-1])


def ring_through(web, parts, number):
    """The ring of the ties that lie in just one of two pairings that has one of these ties, told plainly.

    At each place the one pairing's tie is followed by the other one's.
    """
    start, place = web[1][number]
    ring = (number,)
    while place != start:
        number = [other for other in parts if place in web[1][other] and other != number][0]
        ring = ring + (number,)
        place = sum(web[1][number]) - place
    return told_plainly(ring)


def difference(one, other):
    """The ties that lie in just one of two pairings, ascending."""
    return tuple(sorted([number for number in one + other if number not in one or number not in other]))


def rings_of(web, one, other):
    """The rings of the difference of what surely are two pairings."""
    left = difference(one, other)
    rings = ()
    while left:
        # The first tie that is left is the first one of its ring, so the rings ascend.
        ring = ring_through(web, left, left[0])
        rings = rings + (ring,)
        left = tuple([number for number in left if number not in ring])
    return rings


def rings_between(web, one, other):
    """The rings of the difference of two pairings, told plainly, ascending."""
    check_pairings(web, (one, other))
    return rings_of(web, one, other)


def parting_size(web, one, other):
    """How many ties the ring has by which what surely are two pairings are neighbours, 0 if they are not."""
    parts = difference(one, other)
    if not parts or len(ring_through(web, parts, parts[0])) < len(parts):
        return 0
    return len(parts)


def are_neighbours(web, one, other):
    """Whether the difference of two pairings is one ring."""
    check_pairings(web, (one, other))
    return parting_size(web, one, other) > 0


def turned_by(pairing, ring):
    """What comes if a ring that turns a pairing is turned."""
    return difference(pairing, ring)


def pairings_of_both(web, one, other):
    """All pairings that have no other ties than those of two pairings, ascending."""
    found = [one]
    for ring in rings_between(web, one, other):
        found = found + [turned_by(pairing, ring) for pairing in found]
    return tuple(sorted(found))


def turning_rings(web, pairing, most):
    """All rings of at most so many ties that turn a pairing, ascending."""
    check_pairings(web, (pairing,))
    check_most(most)
    # Each ring that turns the pairing is the difference of it and what comes.
    parted = [rings_of(web, pairing, other) for other in pairings(web)]
    return tuple(sorted([rings[0] for rings in parted if len(rings) == 1 and len(rings[0]) <= most]))


def is_turning(web, pairing, thing):
    """Whether any value is a ring that turns what is surely a pairing."""
    if not is_ring_of(web, thing) or len(thing) % 2 or thing != told_plainly(thing):
        return False
    return all([(number in pairing) != (thing[at - 1] in pairing) for at, number in enumerate(thing)])


def check_ring(web, pairing, ring):
    """Raises BadWeb, BadPairing, and BadRing with any value that does not turn a pairing."""
    check_pairings(web, (pairing,))
    if not is_turning(web, pairing, ring):
        raise BadRing(ring)


def turned(web, pairing, ring):
    """The pairing that comes if a ring is turned."""
    check_ring(web, pairing, ring)
    return turned_by(pairing, ring)


def turn_row(web, pairing, ring):
    """For each tie of a web how the turning of a ring changes it: -1 if it goes, 1 if it comes, 0 if it stays."""
    check_ring(web, pairing, ring)
    rows = [(number in ring, number in pairing) for number in range(len(web[1]))]
    return tuple([(-1 if held else 1) if within else 0 for within, held in rows])


def freedom(web):
    """How many of the turn rows of all rings that turn a pairing are independent, at most."""
    # The rows of different covered parts have no tie in common.
    return sum([span_number(part) - 1 for _, part in covered_parts(web)])
