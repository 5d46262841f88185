"""Ties without which a covered web still is covered, and webs that have none."""

from oncecrossed.bricks import is_two_sided
from oncecrossed.covered import check_covered, is_covered
from oncecrossed.errors import BadTie
from oncecrossed.leaning import Without, bars_leaning, flocks_of
from oncecrossed.pairings import is_pairing_of
from oncecrossed.takings import any_taking, counted_pieces
from oncecrossed.webs import check_tie, check_web, is_tie_number, is_told, numbers_but, web_with


def left_web(web, numbers):
    """The web without some of its ties, all places staying."""
    return web_with(web, numbers_but(web, numbers))


def web_less(web, numbers):
    """The web without the ties of a tuple of numbers, all places staying."""
    check_web(web)
    if not isinstance(numbers, tuple):
        raise BadTie(numbers)
    for at, number in enumerate(numbers):
        if not is_tie_number(web, number) or number in numbers[:at]:
            raise BadTie(number)
    return left_web(web, numbers)


def check_tie_of(web, number):
    """Raises BadWeb with any value that is no covered web, and BadTie with any value that is no tie of it."""
    check_covered(web)
    check_tie(web, number)


def is_spare(web, number):
    """Whether the web without a tie of what is surely a covered web is covered."""
    return is_covered(left_web(web, (number,)))


def judged_spare(web, number):
    """A certificate as judge_spare returns one."""
    if len(web[1]) == 1:
        return ("alone",)
    without = Without(web, number)
    found = []
    for other in without.kept:
        kind, paper = without.judged(other)
        if kind == "leans":
            return ("held", other, paper)
        found.append(paper)
    return ("spare", tuple(found))


def judge_spare(web, number):
    """A certificate: pairings that have the other ties and not this one, another tie that leans on it, or no other."""
    check_tie_of(web, number)
    return judged_spare(web, number)


def are_without(web, number, thing):
    """Whether any value is a tuple of pairings without a tie, one for each other tie in their order, which it has."""
    others = numbers_but(web, (number,))
    if not isinstance(thing, tuple) or len(thing) != len(others):
        return False
    return all([is_pairing_of(web, row) and other in row and number not in row for other, row in zip(others, thing)])


def tells_held(web, number, thing):
    """Whether any value is a certificate of the kinds "held" or "alone"."""
    if is_told(thing, "held", 3):
        other, lot = thing[1:]
        return is_tie_number(web, other) and other != number and bars_leaning(web, other, number, lot)
    return is_told(thing, "alone", 1) and len(web[1]) == 1


def spare_holds(web, number, thing):
    """Whether any value is a certificate as judge_spare returns one."""
    check_tie_of(web, number)
    if is_told(thing, "spare", 2):
        return len(web[1]) > 1 and are_without(web, number, thing[1])
    return tells_held(web, number, thing)


def spare_of(web):
    """The spare ties of what is surely a covered web."""
    return tuple([number for number in numbers_but(web, ()) if is_spare(web, number)])


def spare_ties(web):
    """The numbers of all spare ties of a covered web, ascending."""
    check_covered(web)
    return spare_of(web)


def bricks_in(web):
    """How many bricks the leaves of the takings of what is surely a covered web have."""
    return counted_pieces(web, any_taking(web))[0]


def keeping_ties(web):
    """The numbers of all spare ties without which a covered web has as many bricks, ascending."""
    spare = spare_ties(web)
    if is_two_sided(web):
        return spare
    bricks = bricks_in(web)
    return tuple([number for number in spare if bricks_in(left_web(web, (number,))) == bricks])


def spare_pairs(web):
    """All flocks of two ties without which a covered web still is covered, ascending."""
    check_covered(web)
    return tuple([flock for flock in flocks_of(web) if len(flock) == 2 and is_covered(left_web(web, flock))])


def judge_lean(web):
    """A certificate: for each tie why it is not spare, or a spare tie."""
    check_covered(web)
    reasons = tuple([judged_spare(web, number) for number in numbers_but(web, ())])
    for number, reason in enumerate(reasons):
        if reason[0] == "spare":
            return ("spare", number)
    return ("lean", reasons)


def are_reasons(web, thing):
    """Whether any value is a tuple that tells of each tie in their order why it is not spare."""
    if not isinstance(thing, tuple) or len(thing) != len(web[1]):
        return False
    return all([tells_held(web, number, reason) for number, reason in enumerate(thing)])


def lean_holds(web, thing):
    """Whether any value is a certificate as judge_lean returns one."""
    check_covered(web)
    if is_told(thing, "lean", 2):
        return are_reasons(web, thing[1])
    return is_told(thing, "spare", 2) and is_tie_number(web, thing[1]) and is_spare(web, thing[1])


def thinning(web):
    """Ties of a covered web, each of them spare without those ahead of it, and none is without all of them."""
    check_covered(web)
    taken = ()
    many = -1
    # A tie may become spare if one that leans on it is taken away, so all that are left are looked at once more.
    while many < len(taken):
        many = len(taken)
        left = numbers_but(web, taken)
        for number in left:
            if is_covered(left_web(web, taken + (number,))):
                taken = taken + (number,)
    return taken


def is_thinning(web, thing):
    """Whether any value is a thinning of a covered web."""
    check_covered(web)
    if not isinstance(thing, tuple) or not all([is_tie_number(web, number) for number in thing]):
        return False
    if len(set(thing)) < len(thing):
        return False
    if not all([is_covered(left_web(web, thing[:at + 1])) for at in range(len(thing))]):
        return False
    return len(spare_of(left_web(web, thing))) == 0
