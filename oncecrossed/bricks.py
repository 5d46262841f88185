"""Pieces of covered webs: bricks and braces, and what tells that a covered web is none."""

from oncecrossed.barriers import class_lots, is_barrier_of
from oncecrossed.covered import check_covered
from oncecrossed.errors import BadPaper
from oncecrossed.masks import Matcher, full_mask, lot_of, mask_of, near_masks, part_masks
from oncecrossed.pairings import is_beside
from oncecrossed.webs import check_web, is_lot_of, is_place, is_told, judge_sides, places_but


def pairs_in(lot):
    """All pairs of unlike places of a lot, ascending."""
    return [(a, b) for a in lot for b in lot if a < b]


def parts_beside(web, lot):
    """The parts of the web without a lot, as lots of the web."""
    return [lot_of(part) for part in part_masks(near_masks(web), full_mask(web) ^ mask_of(lot))]


def is_threefold(web):
    """Whether a web has four places or more and is joined, also without any one place or any two places."""
    check_web(web)
    return is_threefold_web(web)


def is_threefold_web(web):
    """The same for what is surely a web."""
    places = places_but(web, ())
    lots = [()] + [(place,) for place in places] + pairs_in(places)
    return len(places) >= 4 and all([len(parts_beside(web, lot)) == 1 for lot in lots])


def lots_in(lot):
    """All lots of places of a lot."""
    found = [()]
    for place in lot:
        found = found + [shorter + (place,) for shorter in found]
    return found


def barrier_paper(web):
    """A certificate of the kind "barrier" for what is surely a covered web, None if there is none."""
    # Each barrier lies within a class, and its parts are odd.
    for lot in [lot for group in class_lots(web) for lot in lots_in(group)]:
        if len(lot) > 1 and is_barrier_of(web, lot):
            part = max(parts_beside(web, lot), key=len)
            if len(part) > 1:
                return ("barrier", lot, part)
    return None


def two_paper(web):
    """A certificate of the kind "two" for what is surely a covered web, None if there is none."""
    for one, other in pairs_in(places_but(web, ())):
        parts = parts_beside(web, (one, other))
        if len(parts) > 1 and are_even(parts):
            return ("two", one, other, parts[0])
    return None


def are_even(lots):
    """Whether each lot has an even number of places."""
    return all([len(lot) % 2 == 0 for lot in lots])


def cut_paper(web):
    """A certificate of the kinds "barrier" and "two", None if what is surely a covered web is a piece."""
    paper = barrier_paper(web)
    if paper is None:
        return two_paper(web)
    return paper


def is_two_sided(web):
    """Whether a web is two-sided."""
    return judge_sides(web)[0] == "sides"


def bared_lots(web):
    """The lots beside which the rows of a piece stand, in their order."""
    kind, side = judge_sides(web)
    if kind == "ring":
        return pairs_in(places_but(web, ()))
    if web[0] <= 4:
        return []
    return [one + other for one in pairs_in(side) for other in pairs_in(places_but(web, side))]


def judge_piece(web):
    """A certificate: rows of pairings that tell a brick or a brace, or what tells an inner tight lot."""
    check_covered(web)
    paper = cut_paper(web)
    if paper is not None:
        return paper
    matcher = Matcher(web)
    rows = tuple([matcher.pairing_of(matcher.full ^ mask_of(lot)) for lot in bared_lots(web)])
    if is_two_sided(web):
        return ("brace", rows)
    return ("brick", rows)


def are_rows(web, thing):
    """Whether any value is a tuple of pairings beside the lots that are asked for."""
    lots = bared_lots(web)
    if not isinstance(thing, tuple) or len(thing) != len(lots):
        return False
    return all([is_beside(web, lot, row) for lot, row in zip(lots, thing)])


def tells_part(web, lot, part):
    """Whether any two values are a barrier of two places or more, and a part beside it of three places or more."""
    if not is_barrier_of(web, lot) or len(lot) < 2 or not is_lot_of(web, part) or len(part) < 3:
        return False
    return part in parts_beside(web, lot)


def tells_parting(web, one, other, lot):
    """Whether any three values are two places that part the web evenly, and some of the parts."""
    if not is_place(web, one) or not is_place(web, other) or one >= other or not is_lot_of(web, lot):
        return False
    parts = parts_beside(web, (one, other))
    taken = [part for part in parts if part[0] in lot]
    if not are_even(parts) or not 0 < len(taken) < len(parts):
        return False
    return sorted([place for part in taken for place in part]) == list(lot)


def tells_cut(web, thing):
    """Whether any value is a certificate of the kinds "barrier" or "two"."""
    if is_told(thing, "barrier", 3):
        return tells_part(web, thing[1], thing[2])
    return is_told(thing, "two", 4) and tells_parting(web, thing[1], thing[2], thing[3])


def piece_holds(web, thing):
    """Whether any value is a certificate as judge_piece returns one."""
    check_covered(web)
    if is_told(thing, "brick", 2):
        return not is_two_sided(web) and is_threefold_web(web) and are_rows(web, thing[1])
    if is_told(thing, "brace", 2):
        return is_two_sided(web) and are_rows(web, thing[1])
    return tells_cut(web, thing)


def is_brick(web):
    """Whether a covered web is a brick."""
    check_covered(web)
    return cut_paper(web) is None and not is_two_sided(web)


def is_brace(web):
    """Whether a covered web is a brace."""
    check_covered(web)
    return cut_paper(web) is None and is_two_sided(web)


def lot_told(paper):
    """The inner tight lot that a certificate of the kinds "barrier" or "two" tells."""
    if paper[0] == "barrier":
        return paper[2]
    return tuple(sorted(paper[3] + (paper[1],)))


def told_lot(web, thing):
    """The inner tight lot that a certificate of the kinds "barrier" or "two" tells."""
    check_covered(web)
    if not tells_cut(web, thing):
        raise BadPaper(thing)
    return lot_told(thing)
