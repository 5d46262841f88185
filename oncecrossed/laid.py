"""Laying lots together, and the lots whose cuts every pairing crosses once."""

from oncecrossed.covered import check_covered
from oncecrossed.errors import BadLot, BadPairing, NotTight
from oncecrossed.masks import full_mask, is_single, lot_of, mask_of
from oncecrossed.pairings import first_pairings, is_pairing_of
from oncecrossed.webs import check_lot, check_web, cut_ties, places_but


def check_part_lot(web, lot):
    """Raises BadLot with any value that is no lot of a web, has no place, or has all of them."""
    check_lot(web, lot)
    if len(lot) in (0, web[0]):
        raise BadLot(lot)


def laid(web, lot):
    """The web in which a lot is laid together, and the numbers that its ties have in the web."""
    check_web(web)
    check_part_lot(web, lot)
    return laid_of(web, lot)


def laid_of(web, lot):
    """The same for what surely can be laid together."""
    rest = places_but(web, lot)
    names = {place: at for at, place in enumerate(rest)}
    return called_anew(web, [names.get(place, len(rest)) for place in range(web[0])])


def called_anew(web, names):
    """The web in which each place has a name, perhaps several one, with the numbers that its ties have in the web."""
    called = [(names[a], names[b], number) for number, (a, b) in enumerate(web[1])]
    ties = sorted([(min(a, b), max(a, b), number) for a, b, number in called if a != b])
    return (max(names) + 1, tuple([(a, b) for a, b, _ in ties])), tuple([number for _, _, number in ties])


def loose_row(web, lot):
    """A pairing of a covered web that has not exactly one tie of the cut of a lot, None if there is none."""
    cut = mask_of(cut_ties(web, lot))
    for pairing in first_pairings(web):
        if not is_single(mask_of(pairing) & cut):
            return pairing
    return None


def is_tight(web, lot):
    """Whether each pairing of a covered web has exactly one tie of the cut of a lot."""
    return loose_pairing(web, lot) is None


def loose_pairing(web, lot):
    """A pairing that has not exactly one tie of the cut of a lot, None if the lot is tight."""
    check_covered(web)
    check_part_lot(web, lot)
    return loose_row(web, lot)


def is_inner_size(web, lot):
    """Whether a lot has as many places as inner tight lots have: an odd number, with three or more on either side."""
    return len(lot) % 2 == 1 and 3 <= len(lot) <= web[0] - 3


def tight_lots(web):
    """All inner tight lots of a covered web that have the place 0, ascending."""
    check_covered(web)
    rows = [mask_of(pairing) for pairing in first_pairings(web)]
    # The lots with the place 0 are those with odd masks.
    lots = [lot_of(mask) for mask in range(1, full_mask(web), 2)]
    found = []
    for lot in sorted([lot for lot in lots if is_inner_size(web, lot)]):
        cut = mask_of(cut_ties(web, lot))
        if all([is_single(row & cut) for row in rows]):
            found.append(lot)
    return tuple(found)


def sides_laid(web, lot):
    """The lot's side and the rest's side of what is surely a tight lot, each with the numbers of its ties."""
    return laid_of(web, places_but(web, lot)), laid_of(web, lot)


def sides_of(web, lot):
    """The two sides of a tight lot: the lot's one and the rest's one, each as laid returns it."""
    pairing = loose_pairing(web, lot)
    if pairing is not None:
        raise NotTight(pairing)
    return sides_laid(web, lot)


def joined_pairing(web, lot, near, far):
    """The pairing that comes of one of the lot's side and one of the rest's side, None if they do not fit."""
    met = []
    for (side, numbers), pairing in zip(sides_of(web, lot), (near, far)):
        if not is_pairing_of(side, pairing):
            raise BadPairing(pairing)
        met.extend([numbers[at] for at in pairing])
    # Together they have one tie more than a pairing, so they fit exactly if they share one, which is in the cut.
    joined = tuple(sorted(set(met)))
    if len(joined) == len(met):
        return None
    return joined
