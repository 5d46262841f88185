"""Ties that lean on others, and the flocks of ties that each pairing has together or not at all."""

from oncecrossed.covered import check_covered
from oncecrossed.errors import BadTie
from oncecrossed.masks import Matcher
from oncecrossed.pairings import is_pairing_of, odd_rests_of
from oncecrossed.tiesin import judged_tie, rest_beside
from oncecrossed.webs import check_tie, is_lot_of, is_told, numbers_but, web_with


def check_leaning(web, one, other):
    """Raises BadWeb with any value that is no covered web, and BadTie for what are not two unlike ties of it."""
    check_covered(web)
    check_tie(web, one)
    check_tie(web, other)
    if one == other:
        raise BadTie(other)


class Without:
    """A covered web without one of its ties, and the ties that lean on that tie."""

    def __init__(self, web, other):
        self.kept = numbers_but(web, (other,))
        self.web = web_with(web, self.kept)
        self.matcher = Matcher(self.web)

    def judged(self, one):
        """A certificate as judge_leaning returns one, for a tie that is left."""
        kind, paper = judged_tie(self.matcher, self.web, self.kept.index(one))
        if kind == "lot":
            return ("leans", paper)
        return ("free", tuple([self.kept[at] for at in paper]))

    def leaning(self):
        """The numbers of all ties that lean on the tie."""
        return [number for number, ends in zip(self.kept, self.web[1])
                if self.matcher.missed(rest_beside(self.matcher, ends))]


def judge_leaning(web, one, other):
    """A certificate: a pairing that has the first tie and not the second one, or a lot that bars all such pairings."""
    check_leaning(web, one, other)
    return Without(web, other).judged(one)


def bars_leaning(web, one, other, thing):
    """Whether any value is a lot with both ends of a tie, and as many odd rests as places without the other tie."""
    if not is_lot_of(web, thing) or not all([place in thing for place in web[1][one]]):
        return False
    return odd_rests_of(web_with(web, numbers_but(web, (other,))), thing) >= len(thing)


def leaning_holds(web, one, other, thing):
    """Whether any value is a certificate as judge_leaning returns one."""
    check_leaning(web, one, other)
    if is_told(thing, "free", 2):
        return is_pairing_of(web, thing[1]) and one in thing[1] and other not in thing[1]
    return is_told(thing, "leans", 2) and bars_leaning(web, one, other, thing[1])


def flocks(web):
    """The flocks of the ties of a covered web, ascending."""
    check_covered(web)
    return flocks_of(web)


def flocks_of(web):
    """The same for what is surely a covered web."""
    numbers = numbers_but(web, ())
    leaning = [Without(web, other).leaning() for other in numbers]
    twins = [[other for other in numbers if other == one or one in leaning[other] and other in leaning[one]]
             for one in numbers]
    return tuple(sorted(set([tuple(flock) for flock in twins])))
