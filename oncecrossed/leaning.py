"""Ties that lean on others, and the flocks of ties that each pairing has together or not at all."""

from oncecrossed.covered import check_covered
from oncecrossed.errors import BadTie
from oncecrossed.masks import Matcher
from oncecrossed.pairings import is_pairing_of, odd_rests_of
from oncecrossed.tiesin import judged_tie, rest_beside
from oncecrossed.webs import check_tie, is_lot_of, is_told, numbers_but, web_with


def check_leaning(web, one, other):
    """Raises BadWeb with any value that is no covered web, and BadTie for what are not two unlike ties of it."""
    check_covered(web)
    check_tie(web, one)
    check_tie(web, other)
    if one == other:
        raise BadTie(other)


def judged_leaning(web, one, other):
    """A certificate as judge_leaning returns one, for what surely are two ties of a covered web."""
    kept = numbers_but(web, (other,))
    left = web_with(web, kept)
    kind, paper = judged_tie(Matcher(left), left, kept.index(one))
    if kind == "lot":
        return ("leans", paper)
    return ("free", tuple([kept[number] for number in paper]))


def judge_leaning(web, one, other):
    """A certificate: a pairing that has the first tie and not the second one, or a lot that bars all such pairings."""
    check_leaning(web, one, other)
    return judged_leaning(web, one, other)


def bars_leaning(web, one, other, thing):
    """Whether any value is a lot with both ends of a tie, and as many odd rests as places without the other tie."""
    if not is_lot_of(web, thing) or not all([place in thing for place in web[1][one]]):
        return False
    return odd_rests_of(web_with(web, numbers_but(web, (other,))), thing) >= len(thing)


def leaning_holds(web, one, other, thing):
    """Whether any value is a certificate as judge_leaning returns one."""
    check_leaning(web, one, other)
    if is_told(thing, "free", 2):
        return is_pairing_of(web, thing[1]) and one in thing[1] and other not in thing[1]
    return is_told(thing, "leans", 2) and bars_leaning(web, one, other, thing[1])


def leaning_on(web, other):
    """The numbers of all ties of what is surely a covered web that lean on a tie, ascending."""
    kept = numbers_but(web, (other,))
    matcher = Matcher(web_with(web, kept))
    return [one for one in kept if matcher.missed(rest_beside(matcher, web[1][one]))]


def flocks(web):
    """The flocks of the ties of a covered web, ascending."""
    check_covered(web)
    return flocks_of(web)


def flocks_of(web):
    """The same for what is surely a covered web."""
    numbers = numbers_but(web, ())
    leaning = [leaning_on(web, other) for other in numbers]
    twins = [[other for other in numbers if other == one or one in leaning[other] and other in leaning[one]]
             for one in numbers]
    return tuple(sorted(set([tuple(flock) for flock in twins])))
