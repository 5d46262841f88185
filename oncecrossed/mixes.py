"""Weights that are mixes of pairings, with shares above 0, and why others are none."""

from math import gcd

from oncecrossed.errors import BadWeb
from oncecrossed.masks import Matcher, full_mask, is_single, lot_of, mask_of
from oncecrossed.pairings import first_pairings
from oncecrossed.spans import are_made, check_weights, cut_sum
from oncecrossed.webs import cut_ties, is_lot_of, is_place, is_tie_number, is_told, is_web, is_whole, plain_of


def check_two_places(web):
    """Raises BadWeb with any value that is no web or has one place."""
    if not is_web(web) or web[0] < 2:
        raise BadWeb(web)


def judge_mix(web, weights):
    """A certificate: shares above 0 that make a multiple of weights, or why they are no mix of pairings."""
    check_two_places(web)
    check_weights(web, weights)
    return judged_mix(web, weights)


def judged_mix(web, weights):
    """The same for what surely are weights of a web of two places or more."""
    cuts = OddCuts(web)
    paper = no_mix(web, weights, cuts)
    if paper is not None:
        return paper
    return mixed(Mixing(web, weights, cuts))


def stars_paper(web, weights):
    """A certificate of the kinds "below" and "stars", None if there is none."""
    for number, weight in enumerate(weights):
        if weight < 0:
            return ("below", number)
    for other in range(web[0]):
        if cut_sum(web, weights, (other,)) != cut_sum(web, weights, (0,)):
            return ("stars", 0, other)
    return None


def no_mix(web, weights, cuts):
    """A certificate that weights are no mix of pairings, None if they are one."""
    paper = stars_paper(web, weights)
    if paper is not None:
        return paper
    lot = cuts.poor_lot(weights, cut_sum(web, weights, (0,)))
    if lot is not None:
        return ("odd", lot)
    return None


class OddCuts:
    """The odd lots of a web that can have less over their cuts than a star has.

    The rest of an odd lot of an even number of places is odd, too, so those with the place 0 do. If the number of
    places is odd, the lot of all of them does: its cut has no tie.
    """

    def __init__(self, web):
        full = full_mask(web)
        lots = [lot_of(mask) for mask in range(1, full + 1, 2)]
        if web[0] % 2:
            lots = [lot_of(full)]
        self.lots = [lot for lot in lots if len(lot) % 2]
        self.cuts = [cut_ties(web, lot) for lot in self.lots]

    def sums(self, weights):
        """The sums of weights over the cuts."""
        return [sum([weights[number] for number in cut]) for cut in self.cuts]

    def poor_lot(self, weights, star):
        """The first lot over whose cut weights have a sum that is less than that over a star, None if there is none."""
        for lot, over in zip(self.lots, self.sums(weights)):
            if over < star:
                return lot
        return None


class Mixing:
    """Weights that surely are a mix of pairings, of which shares are taken as long as something is left.

    What is left always is a mix: of a pairing so much is taken that a tie has nothing left, or a cut just enough.
    """

    def __init__(self, web, weights, cuts):
        self.left = list(weights)
        self.star = cut_sum(web, weights, (0,))
        self.times = 1
        self.shares = []
        self.cuts = cuts.cuts
        matcher = Matcher(web)
        self.rows = [(row, mask_of(row)) for row in matcher.pairings_of(matcher.full)]

    def over(self, cut):
        """What is left over a cut."""
        return sum([self.left[number] for number in cut])

    def tighten(self):
        """Leaves the pairings that have no tie without anything left, and one tie of each cut with just enough."""
        rows = [(row, mask) for row, mask in self.rows if all([self.left[number] > 0 for number in row])]
        loose = []
        for cut in self.cuts:
            if self.over(cut) == self.star:
                bits = mask_of(cut)
                rows = [(row, mask) for row, mask in rows if is_single(mask & bits)]
            else:
                loose.append(cut)
        self.rows = rows
        self.cuts = loose

    def most(self, row):
        """The greatest share of a pairing that can be taken, as two integers: the share is the first by the second."""
        best = (min([self.left[number] for number in row]), 1)
        for cut in self.cuts:
            more = len([number for number in row if number in cut]) - 1
            spare = self.over(cut) - self.star
            if more > 0 and spare * best[1] < best[0] * more:
                best = (spare, more)
        return best

    def take(self):
        """Takes the greatest share of the first pairing that is left."""
        self.tighten()
        row = self.rows[0][0]
        share, by = self.most(row)
        grow = by // gcd(share, by)
        self.left = [grow * weight for weight in self.left]
        self.star = grow * self.star
        self.times = grow * self.times
        share = share * grow // by
        self.shares = [(one, grow * many) for one, many in self.shares] + [(row, share)]
        for number in row:
            self.left[number] = self.left[number] - share
        self.star = self.star - share


def mixed(mixing):
    """The certificate of the kind "mix" that comes of a mixing."""
    while mixing.star > 0:
        mixing.take()
    return ("mix", mixing.times, tuple(sorted(mixing.shares)))


def are_unlike_stars(web, weights, one, other):
    """Whether any two values are places, the first one less than the second one, over whose stars sums are unlike."""
    if not is_place(web, one) or not is_place(web, other) or one >= other:
        return False
    return cut_sum(web, weights, (one,)) != cut_sum(web, weights, (other,))


def tells_stars(web, weights, thing):
    """Whether any value is a certificate of the kinds "below" or "stars"."""
    if is_told(thing, "below", 2):
        return is_tie_number(web, thing[1]) and weights[thing[1]] < 0
    return is_told(thing, "stars", 3) and are_unlike_stars(web, weights, thing[1], thing[2])


def is_poor_lot(web, weights, lot):
    """Whether any value is an odd lot over whose cut weights have a sum less than that over the star of the place 0."""
    if not is_lot_of(web, lot) or len(lot) % 2 == 0:
        return False
    return cut_sum(web, weights, lot) < cut_sum(web, weights, (0,))


def is_mixed(web, weights, times, terms):
    """Whether any two values are an integer above 0, and terms above 0 whose total is so many times weights."""
    if not is_whole(times) or times <= 0 or not are_made(web, weights, times, terms):
        return False
    return all([many > 0 for _, many in terms])


def mix_holds(web, weights, thing):
    """Whether any value is a certificate as judge_mix returns one."""
    check_two_places(web)
    check_weights(web, weights)
    if is_told(thing, "mix", 3):
        return is_mixed(web, weights, thing[1], thing[2])
    if is_told(thing, "odd", 2):
        return is_poor_lot(web, weights, thing[1])
    return tells_stars(web, weights, thing)


def judge_even(web):
    """A certificate as judge_mix returns one, for the weights that are 1 at every tie."""
    check_two_places(web)
    return judged_mix(web, (1,) * len(web[1]))


def parted(web):
    """Pairings of which each tie of a web has just one, ascending; None if there are none."""
    check_two_places(web)
    if no_mix(web, (1,) * len(web[1]), OddCuts(web)) is not None:
        return None
    plain = plain_of(web)
    numbers = [[number for number, ends in enumerate(web[1]) if ends == pair] for pair in plain[1]]
    rows = Parting(plain).rows_for([len(group) for group in numbers])
    if rows is None:
        return None
    return tuple(sorted([tuple(sorted([numbers[at].pop() for at in row])) for row in rows]))


class Parting:
    """The search for pairings of a plain web that together have each tie as often as it is told."""

    def __init__(self, plain):
        self.plain = plain
        self.rows = first_pairings(plain)
        self.cuts = OddCuts(plain)
        self.known = {}

    def rows_for(self, many):
        """Pairings that have each tie so often, None if there are none, for numbers that are a mix of pairings."""
        if not any(many):
            return []
        told = tuple(many)
        if told not in self.known:
            self.known[told] = self.rows_anew(many)
        return self.known[told]

    def rows_anew(self, many):
        """The same: the first tie that is left lies in one of them, and what the others have is a mix, too."""
        first = [at for at, left in enumerate(many) if left][0]
        for row in self.rows:
            if first in row and all([many[at] for at in row]):
                rest = [left - 1 if at in row else left for at, left in enumerate(many)]
                if self.cuts.poor_lot(rest, cut_sum(self.plain, rest, (0,))) is None:
                    found = self.rows_for(rest)
                    if found is not None:
                        return found + [row]
        return None
