"""Pairings, and why there is none."""

from oncecrossed.masks import Matcher, full_mask, mask_of, near_masks, odd_parts
from oncecrossed.webs import check_lot, check_web, is_lot_of, is_tie_number, is_told, places_but, plain_of


def is_beside(web, lot, thing):
    """Whether any value is an ascending tuple of ties that pair the places of the rest of a lot."""
    if not isinstance(thing, tuple) or not all([is_tie_number(web, number) for number in thing]):
        return False
    met = [place for number in thing for place in web[1][number]]
    return list(thing) == sorted(thing) and sorted(met) == list(places_but(web, lot))


def is_pairing_of(web, thing):
    """Whether any value is a pairing of what is surely a web."""
    return is_beside(web, (), thing)


def is_pairing(web, thing):
    """Whether any value is a pairing of a web."""
    check_web(web)
    return is_pairing_of(web, thing)


def pairings(web):
    """All pairings of a web, ascending."""
    check_web(web)
    matcher = Matcher(web)
    return tuple(matcher.pairings_of(matcher.full))


def first_pairings(web):
    """The pairings of a web that have, of doubled ties, the first ones only, ascending."""
    plain = plain_of(web)
    matcher = Matcher(plain)
    firsts = [web[1].index(ends) for ends in plain[1]]
    return [tuple([firsts[number] for number in row]) for row in matcher.pairings_of(matcher.full)]


def how_many(web):
    """How many pairings a web has."""
    return len(pairings(web))


def odd_rests_of(web, lot):
    """The number of odd rests of what is surely a lot of a web."""
    return odd_parts(near_masks(web), full_mask(web) ^ mask_of(lot))


def odd_rests(web, lot):
    """How many parts of the web without a lot are odd."""
    check_web(web)
    check_lot(web, lot)
    return odd_rests_of(web, lot)


def judged_pairing(matcher):
    """A certificate as judge_pairing returns one."""
    pairing = matcher.pairing_of(matcher.full)
    if pairing is None:
        return ("lot", matcher.barring_lot(matcher.full))
    return ("pairing", pairing)


def judge_pairing(web):
    """A certificate: a pairing of a web, or a lot with more odd rests than places."""
    check_web(web)
    return judged_pairing(Matcher(web))


def bars_pairings(web, thing):
    """Whether any value is a lot of a web with more odd rests than places."""
    return is_lot_of(web, thing) and odd_rests_of(web, thing) > len(thing)


def pairing_holds(web, thing):
    """Whether any value is a certificate as judge_pairing returns one."""
    check_web(web)
    if is_told(thing, "pairing", 2):
        return is_pairing_of(web, thing[1])
    return is_told(thing, "lot", 2) and bars_pairings(web, thing[1])
