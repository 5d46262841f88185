"""Weights that are whole sums of pairings, and why others are none: cuts, or rings of five in a Petersen brick."""

from itertools import combinations

from oncecrossed.covered import check_covered
from oncecrossed.errors import BadLots
from oncecrossed.lists import is_petersen_web
from oncecrossed.spans import are_made, are_unlike_cuts, check_weights, is_tight_lot, judge_span
from oncecrossed.webs import is_lot_of, is_told, places_but


def judge_whole(web, weights):
    """A certificate: terms that make weights, two tight lots with unlike sums, or a ring of five with an odd sum."""
    paper = judge_span(web, weights)
    if paper[0] == "cuts":
        return paper
    # The multiple of the weights that is told there is the least one that is a whole sum.
    if paper[1] == 1:
        return ("whole", paper[2])
    return five_paper(web, weights)


def five_paper(web, weights):
    """A certificate of the kind "five" for weights that are in the span, but no whole sum."""
    papers = [("five", lots, ring) for lots in lots_of_ten(web) for ring in rings_among(web, lots)]
    odd = [paper for paper in papers if sum_between(web, weights, paper[1], paper[2]) % 2 == 1]
    return odd[0]


def positions_in(lots):
    """For each place the position of the lot that has it."""
    return {place: at for at, lot in enumerate(lots) for place in lot}


def plain_between(web, lots):
    """The plain web in which all of some lots, that have each place once, are laid together in their order."""
    at = positions_in(lots)
    pairs = [(min(at[a], at[b]), max(at[a], at[b])) for a, b in web[1] if at[a] != at[b]]
    return (len(lots), tuple(sorted(set(pairs))))


def groups_in(web):
    """The lots that, with nine single places beside them, may be ten tight lots that have all places."""
    if web[0] == 10:
        return [(0,)]
    if web[0] == 12:
        return list(combinations(range(12), 3))
    return []


def lots_of_ten(web):
    """The tuple that five_lots returns, for what is surely a covered web."""
    found = []
    for group in groups_in(web):
        lots = tuple(sorted([group] + [(place,) for place in places_but(web, group)]))
        if is_petersen_web(plain_between(web, lots)) and is_tight_lot(web, group):
            found.append(lots)
    return tuple(sorted(found))


def five_lots(web):
    """All tuples of ten tight lots of a covered web that make it, laid together, the Petersen web."""
    check_covered(web)
    return lots_of_ten(web)


def are_ten_lots(web, thing):
    """Whether any value is a tuple of ten tight lots of a covered web that make it the Petersen web."""
    if not isinstance(thing, tuple) or len(thing) != 10 or not all([is_lot_of(web, lot) for lot in thing]):
        return False
    places = sorted([place for lot in thing for place in lot])
    if list(thing) != sorted(thing) or places != list(places_but(web, ())):
        return False
    # A lot of one place is tight, so only greater ones are looked at.
    greater = [lot for lot in thing if len(lot) != 1]
    return is_petersen_web(plain_between(web, thing)) and all([is_tight_lot(web, lot) for lot in greater])


def is_five_ring(plain, ring):
    """Whether each of five places of a plain web is tied to just two others of them."""
    inner = [place for pair in plain[1] if pair[0] in ring and pair[1] in ring for place in pair]
    return all([inner.count(place) == 2 for place in ring])


def rings_among(web, lots):
    """The tuple that five_rings returns, for what surely are such lots."""
    plain = plain_between(web, lots)
    return tuple([ring for ring in combinations(range(10), 5) if is_five_ring(plain, ring)])


def five_rings(web, lots):
    """All rings of five positions in ten lots as five_lots tells them, ascending."""
    check_covered(web)
    if not are_ten_lots(web, lots):
        raise BadLots(lots)
    return rings_among(web, lots)


def sum_between(web, weights, lots, ring):
    """The sum of weights over all ties between two unlike ones of the lots at some positions."""
    at = positions_in(lots)
    ties = [(number, at[a], at[b]) for number, (a, b) in enumerate(web[1])]
    return sum([weights[number] for number, one, other in ties if one != other and one in ring and other in ring])


def is_odd_five(web, weights, lots, ring):
    """Whether any two values are ten lots and a ring of five over which weights have an odd sum."""
    if not are_ten_lots(web, lots):
        return False
    plain = plain_between(web, lots)
    if not is_lot_of(plain, ring) or len(ring) != 5 or not is_five_ring(plain, ring):
        return False
    return sum_between(web, weights, lots, ring) % 2 == 1


def whole_holds(web, weights, thing):
    """Whether any value is a certificate as judge_whole returns one."""
    check_covered(web)
    check_weights(web, weights)
    if is_told(thing, "whole", 2):
        return are_made(web, weights, 1, thing[1])
    if is_told(thing, "cuts", 3):
        return are_unlike_cuts(web, weights, thing[1], thing[2])
    return is_told(thing, "five", 3) and is_odd_five(web, weights, thing[1], thing[2])
