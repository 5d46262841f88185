"""Ties that lie in pairings, and why others do not."""

from oncecrossed.errors import NoPairing
from oncecrossed.masks import Matcher, mask_of
from oncecrossed.pairings import is_pairing_of, odd_rests_of
from oncecrossed.webs import check_tie, check_web, is_lot_of, is_told


def rest_beside(matcher, ends):
    """The mask of all places but the ends of a tie."""
    return matcher.full ^ mask_of(ends)


def judged_tie(matcher, web, number):
    """A certificate as judge_tie returns one, for a web that has a pairing."""
    ends = web[1][number]
    rest = rest_beside(matcher, ends)
    pairing = matcher.pairing_of(rest)
    if pairing is None:
        # What bars the pairing of the rest has two more odd rests than places, or more: the ends make up for them.
        return ("lot", tuple(sorted(matcher.barring_lot(rest) + ends)))
    return ("pairing", tuple(sorted(pairing + (number,))))


def judge_tie(web, number):
    """A certificate: a pairing that has a tie, or a lot with as many odd rests as places that has both ends."""
    check_web(web)
    matcher = Matcher(web)
    if matcher.missed(matcher.full):
        raise NoPairing()
    check_tie(web, number)
    return judged_tie(matcher, web, number)


def bars_tie(web, number, thing):
    """Whether any value is a lot of a web with as many odd rests as places that has both ends of a tie."""
    if not is_lot_of(web, thing) or odd_rests_of(web, thing) != len(thing):
        return False
    return all([place in thing for place in web[1][number]])


def tie_holds(web, number, thing):
    """Whether any value is a certificate as judge_tie returns one."""
    check_web(web)
    matcher = Matcher(web)
    if matcher.missed(matcher.full):
        raise NoPairing()
    check_tie(web, number)
    if is_told(thing, "pairing", 2):
        return is_pairing_of(web, thing[1]) and number in thing[1]
    return is_told(thing, "lot", 2) and bars_tie(web, number, thing[1])


def let_ties(web):
    """The numbers of all ties that lie in some pairing, ascending."""
    check_web(web)
    matcher = Matcher(web)
    return tuple([number for number, ends in enumerate(web[1]) if matcher.missed(rest_beside(matcher, ends)) == 0])


def needed_ties(web):
    """The numbers of all ties that lie in all pairings, ascending."""
    let = let_ties(web)
    if not let:
        raise NoPairing()
    # Each pairing has one tie of a star, so a tie is needed if no other one of its star lies in a pairing.
    stars = [web[1][number][0] for number in let] + [web[1][number][1] for number in let]
    return tuple([number for number in let if stars.count(web[1][number][0]) == 1])
