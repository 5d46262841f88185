"""Barriers of covered webs, and the parting into greatest ones."""

from oncecrossed.covered import check_covered
from oncecrossed.errors import BadPlace
from oncecrossed.masks import Matcher, full_mask, lot_of, mask_of, near_masks, odd_parts
from oncecrossed.pairings import is_beside, odd_rests_of
from oncecrossed.webs import is_lot_of, is_place, is_told


def is_barrier_of(web, thing):
    """Whether any value is a barrier of what is surely a covered web."""
    return is_lot_of(web, thing) and len(thing) > 0 and odd_rests_of(web, thing) == len(thing)


def is_barrier(web, thing):
    """Whether any value is a barrier of a covered web."""
    check_covered(web)
    return is_barrier_of(web, thing)


def barriers(web):
    """All barriers of a covered web, ascending."""
    check_covered(web)
    near = near_masks(web)
    full = full_mask(web)
    lots = [lot_of(mask) for mask in range(1, full + 1)]
    return tuple(sorted([lot for lot in lots if odd_parts(near, full ^ mask_of(lot)) == len(lot)]))


def class_of(matcher, place):
    """The lot of all places that are akin to a place."""
    rest = matcher.full ^ (1 << place)
    apart = [other for other in lot_of(rest) if matcher.missed(rest ^ (1 << other)) == 0]
    return lot_of(matcher.full ^ mask_of(apart))


def class_lots(web):
    """The classes of what is surely a covered web."""
    matcher = Matcher(web)
    return tuple(sorted(set([class_of(matcher, place) for place in range(web[0])])))


def classes(web):
    """All classes of akin places of a covered web, ascending."""
    check_covered(web)
    return class_lots(web)


def check_two(web, one, other):
    """Raises BadPlace with the first one of any two values that is no place, or with the second if they are one."""
    for thing in (one, other):
        if not is_place(web, thing):
            raise BadPlace(thing)
    if one == other:
        raise BadPlace(other)


def judge_akin(web, one, other):
    """A certificate: a pairing beside two places of a covered web, or a barrier that has both."""
    check_covered(web)
    check_two(web, one, other)
    matcher = Matcher(web)
    pairing = matcher.pairing_of(matcher.full ^ mask_of((one, other)))
    if pairing is None:
        return ("akin", class_of(matcher, one))
    return ("apart", pairing)


def akin_holds(web, one, other, thing):
    """Whether any value is a certificate as judge_akin returns one."""
    check_covered(web)
    check_two(web, one, other)
    if is_told(thing, "apart", 2):
        return is_beside(web, (one, other), thing[1])
    return is_told(thing, "akin", 2) and is_barrier_of(web, thing[1]) and one in thing[1] and other in thing[1]
