"""Weights of ties, sums of pairings, and the span of all pairings of a covered web."""

from math import gcd

from oncecrossed.covered import check_covered
from oncecrossed.errors import BadPairing, BadTerms, BadWeights
from oncecrossed.laid import loose_row
from oncecrossed.pairings import first_pairings, is_pairing_of
from oncecrossed.takings import any_taking, counted_pieces, lots_along
from oncecrossed.webs import check_web, cut_ties, is_lot_of, is_pair, is_told, is_whole


def is_weights(web, thing):
    """Whether any value is weights of what is surely a web."""
    return isinstance(thing, tuple) and len(thing) == len(web[1]) and all([is_whole(item) for item in thing])


def check_weights(web, weights):
    """Raises BadWeights with any value that is no weights of a web."""
    if not is_weights(web, weights):
        raise BadWeights(weights)


def is_term(web, thing):
    """Whether any value is a pair of a pairing and an integer that is not 0."""
    return is_pair(thing) and is_pairing_of(web, thing[0]) and is_whole(thing[1]) and thing[1] != 0


def is_terms(web, thing):
    """Whether any value is terms of what is surely a web."""
    if not isinstance(thing, tuple) or not all([is_term(web, item) for item in thing]):
        return False
    ones = [pairing for pairing, _ in thing]
    return ones == sorted(set(ones))


def total_of(web, terms):
    """The total of what surely are terms."""
    sums = [0] * len(web[1])
    for pairing, many in terms:
        for number in pairing:
            sums[number] += many
    return tuple(sums)


def row_of(web, pairing):
    """The weights that are 1 at the ties of a pairing and 0 at all others."""
    check_web(web)
    if not is_pairing_of(web, pairing):
        raise BadPairing(pairing)
    return total_of(web, ((pairing, 1),))


def total(web, terms):
    """The sum of the rows of pairings, each times its integer."""
    check_web(web)
    if not is_terms(web, terms):
        raise BadTerms(terms)
    return total_of(web, terms)


def cut_sum(web, weights, lot):
    """The sum of weights over the cut of a lot."""
    return sum([weights[number] for number in cut_ties(web, lot)])


def unlike_cuts(web, weights):
    """A certificate of the kind "cuts" for a covered web and weights, None if there is none."""
    lots = [(place,) for place in range(web[0])] + list(lots_along(web, any_taking(web)))
    for lot in lots:
        if cut_sum(web, weights, lot) != cut_sum(web, weights, lots[0]):
            return ("cuts", lots[0], lot)
    return None


def is_tight_lot(web, thing):
    """Whether any value is a tight lot of what is surely a covered web."""
    # No tie is in the cut of (), or in that of all places, so both are loose.
    return is_lot_of(web, thing) and loose_row(web, thing) is None


def are_unlike_cuts(web, weights, one, other):
    """Whether any two values are tight lots over whose cuts weights have unlike sums."""
    if not is_tight_lot(web, one) or not is_tight_lot(web, other):
        return False
    return cut_sum(web, weights, one) != cut_sum(web, weights, other)


def row_less(row, other, many):
    """A row of integers less another one, taken so many times."""
    return [mine - many * yours for mine, yours in zip(row, other)]


class Steps:
    """Rows of integers, kept in steps: rows with unlike first columns, whose whole sums are those of all rows put in.

    Only the first columns, so many of them, make steps; those behind tell of what a row is made.
    """

    def __init__(self, columns):
        self.columns = columns
        self.rows = {}

    def put(self, row):
        """Puts a row in; returns whether it was no whole sum of those ahead of it."""
        grew = False
        for at in range(self.columns):
            if row[at] != 0:
                if at not in self.rows:
                    self.rows[at] = row
                    return True
                step = self.rows[at]
                grew = grew or row[at] % step[at] != 0
                while row[at] != 0:
                    step, row = row, row_less(step, row, step[at] // row[at])
                self.rows[at] = step
        return grew

    def made(self, row):
        """The least integer above 0 by which a row in the span becomes a whole sum, and so many of it less the sum.

        Behind the columns stands, with the other sign, of what the sum is made.
        """
        times = 1
        for at in range(self.columns):
            if row[at] != 0:
                step = self.rows[at]
                more = abs(step[at]) // gcd(step[at], row[at])
                times = times * more
                row = [more * item for item in row]
                row = row_less(row, step, row[at] // step[at])
        return times, row


def telling_pairings(web):
    """Pairings of a covered web whose whole sums are those of all of its pairings.

    Beside the pairings of first ties, one for each other tie: to exchange doubled ties is the same in all pairings.
    """
    ones = first_pairings(web)
    found = list(ones)
    for number, ends in enumerate(web[1]):
        first = web[1].index(ends)
        if first != number:
            row = [row for row in ones if first in row][0]
            found.append(tuple(sorted([number if at == first else at for at in row])))
    return found


def row_in(web, pairing):
    """The row of what is surely a pairing, as a list."""
    return list(total_of(web, ((pairing, 1),)))


def needed_pairings(web):
    """Some pairings of a covered web whose whole sums are those of all of its pairings, as few as come of it."""
    steps = Steps(len(web[1]))
    return [pairing for pairing in telling_pairings(web) if steps.put(row_in(web, pairing))]


def made_terms(web, weights):
    """An integer above 0, the least one, and terms whose total is so many times weights that are in the span."""
    needed = needed_pairings(web)
    steps = Steps(len(web[1]))
    for at, pairing in enumerate(needed):
        steps.put(row_in(web, pairing) + [1 if at == other else 0 for other in range(len(needed))])
    times, left = steps.made(list(weights) + [0] * len(needed))
    return times, tuple(sorted([(pairing, -many) for pairing, many in zip(needed, left[len(web[1]):]) if many != 0]))


def judge_span(web, weights):
    """A certificate: terms that make a multiple of weights, or two tight lots whose cuts have unlike sums."""
    check_covered(web)
    check_weights(web, weights)
    paper = unlike_cuts(web, weights)
    if paper is not None:
        return paper
    times, terms = made_terms(web, weights)
    return ("sums", times, terms)


def are_made(web, weights, times, terms):
    """Whether any value is terms whose total is so many times weights."""
    return is_terms(web, terms) and total_of(web, terms) == tuple([times * item for item in weights])


def span_holds(web, weights, thing):
    """Whether any value is a certificate as judge_span returns one."""
    check_covered(web)
    check_weights(web, weights)
    if is_told(thing, "sums", 3):
        return is_whole(thing[1]) and thing[1] != 0 and are_made(web, weights, thing[1], thing[2])
    return is_told(thing, "cuts", 3) and are_unlike_cuts(web, weights, thing[1], thing[2])


def grown(web, ones):
    """Those of some pairings that are not in the span of the ones ahead of them."""
    steps = Steps(len(web[1]))
    found = []
    for pairing in ones:
        many = len(steps.rows)
        steps.put(row_in(web, pairing))
        if len(steps.rows) > many:
            found.append(pairing)
    return found


def independent(web):
    """As many independent pairings of a covered web as can be, ascending."""
    check_covered(web)
    return tuple(sorted(grown(web, telling_pairings(web))))


def span_number(web):
    """How many pairings of a covered web are independent, at most."""
    check_covered(web)
    return len(web[1]) - web[0] + 2 - counted_pieces(web, any_taking(web))[0]


def are_independent(web, ones):
    """Whether pairings are independent."""
    check_covered(web)
    if not isinstance(ones, tuple):
        raise BadPairing(ones)
    for thing in ones:
        if not is_pairing_of(web, thing):
            raise BadPairing(thing)
    return len(grown(web, ones)) == len(ones)
