"""Covered webs, and the covered parts of others."""

from oncecrossed.errors import BadWeb, NoPairing
from oncecrossed.masks import Matcher
from oncecrossed.pairings import bars_pairings, is_pairing_of, judged_pairing
from oncecrossed.tiesin import bars_tie, judged_tie, let_ties
from oncecrossed.webs import check_web, is_tie_number, is_told, is_web, part_lots, web_of, web_with


def is_one_part(web):
    """Whether a web is joined and has two places or more."""
    return web[0] > 1 and len(part_lots(web)) == 1


def is_covered(thing):
    """Whether any value is a covered web."""
    return is_web(thing) and is_one_part(thing) and len(let_ties(thing)) == len(thing[1])


def check_covered(thing):
    """Raises BadWeb with any value that is no covered web."""
    if not is_covered(thing):
        raise BadWeb(thing)


def judge_covered(web):
    """A certificate: for each tie a pairing that has it, or why the web is not covered."""
    check_web(web)
    if not is_one_part(web):
        return ("parts",)
    matcher = Matcher(web)
    if matcher.missed(matcher.full):
        return ("none", judged_pairing(matcher)[1])
    return judged_ties(matcher, web)


def judged_ties(matcher, web):
    """The pairings of all ties, or the first tie that lies in none, with a lot that tells so."""
    found = []
    for number in range(len(web[1])):
        kind, paper = judged_tie(matcher, web, number)
        if kind == "lot":
            return ("tie", number, paper)
        found.append(paper)
    return ("covered", tuple(found))


def are_covering(web, thing):
    """Whether any value is a tuple of pairings, one for each tie in their order, each of which has its tie."""
    if not isinstance(thing, tuple) or len(thing) != len(web[1]):
        return False
    return all([is_pairing_of(web, row) and number in row for number, row in enumerate(thing)])


def is_tie_barred(web, number, lot):
    """Whether any two values are a tie of a web that has a pairing, and a lot that bars the tie."""
    matcher = Matcher(web)
    return matcher.missed(matcher.full) == 0 and is_tie_number(web, number) and bars_tie(web, number, lot)


def covered_holds(web, thing):
    """Whether any value is a certificate as judge_covered returns one."""
    check_web(web)
    if is_told(thing, "covered", 2):
        return is_one_part(web) and are_covering(web, thing[1])
    if is_told(thing, "none", 2):
        return bars_pairings(web, thing[1])
    if is_told(thing, "tie", 3):
        return is_tie_barred(web, thing[1], thing[2])
    return is_told(thing, "parts", 1) and not is_one_part(web)


def covered_parts(web):
    """The covered parts of a web, ascending, each as its lot and the web of its places."""
    let = let_ties(web)
    if not let:
        raise NoPairing()
    left = web_with(web, let)
    return tuple([(lot, web_of(left, lot)) for lot in part_lots(left)])
