"""Ears by which covered webs grow from one tie, with as few double steps as can be."""

from itertools import combinations

from oncecrossed.bricks import is_two_sided
from oncecrossed.covered import check_covered, is_covered
from oncecrossed.critical import way_along
from oncecrossed.errors import BadNumber, BadRow
from oncecrossed.masks import Matcher, mask_of
from oncecrossed.takings import any_taking, counted_pieces, is_taking_of
from oncecrossed.webs import is_pair, is_tie_number, is_told, is_whole, numbers_but, web_of, web_with


def places_met(web, numbers):
    """The places that ties meet, ascending."""
    return tuple(sorted(set([place for number in numbers for place in web[1][number]])))


def standing_web(web, numbers):
    """The web of what stands if these ties stand, numbered anew."""
    return web_of(web_with(web, sorted(numbers)), places_met(web, numbers))


def is_standing(web, numbers):
    """Whether the web of what stands is covered."""
    return is_covered(standing_web(web, numbers))


def numbers_along(row):
    """The ties of what has the form of a row of ears, in the order in which they are put in."""
    return [row[0]] + [number for step in row[1] for ear in step for number in ear]


def is_step_form(web, thing):
    """Whether any value is a tuple of one or two tuples of numbers of ties."""
    if not isinstance(thing, tuple) or len(thing) not in (1, 2):
        return False
    return all([isinstance(ear, tuple) and all([is_tie_number(web, number) for number in ear]) for ear in thing])


def is_row_form(web, thing):
    """Whether any value has the form of a row of ears that puts in each tie of a web once."""
    if not is_pair(thing) or not is_tie_number(web, thing[0]) or not isinstance(thing[1], tuple):
        return False
    if not all([is_step_form(web, step) for step in thing[1]]):
        return False
    return tuple(sorted(numbers_along(thing))) == numbers_but(web, ())


def is_step(web, numbers, step):
    """Whether a step of the right form can follow if these ties stand."""
    ways = [way_along(web, places_met(web, numbers), ear) for ear in step]
    if None in ways:
        return False
    met = [place for way in ways for place in way]
    if len(set(met)) < len(met):
        return False
    if len(step) == 2 and any([is_standing(web, numbers + list(ear)) for ear in step]):
        return False
    return is_standing(web, numbers + [number for ear in step for number in ear])


def is_row_of(web, thing):
    """Whether any value is a row of ears of what is surely a web."""
    if not is_row_form(web, thing):
        return False
    first, steps = thing
    return all([is_step(web, numbers_along((first, steps[:at])), step) for at, step in enumerate(steps)])


def is_row(web, thing):
    """Whether any value is a row of ears of a covered web."""
    check_covered(web)
    return is_row_of(web, thing)


def doubles_told(web, tree):
    """How many bricks and Petersen bricks the leaves of what is surely a taking have together."""
    bricks, petersens, _ = counted_pieces(web, tree)
    return bricks + petersens


def fewest_doubles(web):
    """The least number of double steps of what is surely a covered web."""
    if is_two_sided(web):
        return 0
    return doubles_told(web, any_taking(web))


def least_doubles(web):
    """The least number of double steps of the rows of ears of a covered web."""
    check_covered(web)
    return fewest_doubles(web)


def chain_from(web, numbers, number):
    """The row of ties around a tie that are joined by places without further ties, of those that stand."""
    stars = [[other for other in numbers if place in web[1][other]] for place in range(web[0])]
    chain = (number,)
    for end in web[1][number]:
        # Turned round, the chain grows at its other end.
        chain = chain[::-1]
        place = end
        while len(stars[place]) == 2 and len(chain) < len(numbers):
            further = sum(stars[place]) - chain[-1]
            chain = chain + (further,)
            place = sum(web[1][further]) - place
    return chain


def last_ears(web, numbers):
    """The ears that may be put in last, if these ties stand behind them."""
    chains = [chain_from(web, numbers, number) for number in numbers]
    if len(chains[0]) == len(numbers):
        # In a ring, one tie stands at first.
        return [chains[0][1:]]
    return sorted(set([min(chain, chain[::-1]) for chain in chains if len(chain) % 2 == 1]))


def ahead_of(numbers, step):
    """The ties that stand ahead of a step, of those that stand behind it."""
    return tuple([number for number in numbers if not any([number in ear for ear in step])])


def is_last_step(web, numbers, step, doubles):
    """Whether a step may be the last one, if these ties stand behind it, of a row with so many double steps."""
    left = standing_web(web, ahead_of(numbers, step))
    return is_covered(left) and fewest_doubles(left) == doubles + 1 - len(step)


def last_step(web, numbers):
    """A step that is the last one in a row with as few double steps as can be, if these ties stand behind it.

    A step is, exactly if what stands ahead of it needs just so many double steps less as the step is one. So no choice
    of a step is wrong.
    """
    doubles = fewest_doubles(standing_web(web, numbers))
    ears = last_ears(web, numbers)
    for ear in ears:
        if is_last_step(web, numbers, (ear,), doubles):
            return (ear,)
    pairs = [pair for pair in combinations(ears, 2) if is_last_step(web, numbers, pair, doubles)]
    return pairs[0]


def best_row(web):
    """A row of ears of what is surely a covered web, with as few double steps as can be."""
    numbers = numbers_but(web, ())
    steps = ()
    while len(numbers) > 1:
        step = last_step(web, numbers)
        steps = (step,) + steps
        numbers = ahead_of(numbers, step)
    return (numbers[0], steps)


def check_number(k):
    """Raises BadNumber with any value that is no integer from 0 on."""
    if not is_whole(k) or k < 0:
        raise BadNumber(k)


def judge_ears(web, k):
    """A certificate: a row of ears with at most k double steps, or a taking with too many bricks for one."""
    check_covered(web)
    check_number(k)
    if fewest_doubles(web) > k:
        return ("pieces", any_taking(web))
    return ("ears", best_row(web))


def ears_hold(web, k, thing):
    """Whether any value is a certificate as judge_ears returns one."""
    check_covered(web)
    check_number(k)
    if is_told(thing, "ears", 2):
        return is_row_of(web, thing[1]) and len([step for step in thing[1][1] if len(step) == 2]) <= k
    return is_told(thing, "pieces", 2) and is_taking_of(web, thing[1]) and doubles_told(web, thing[1]) > k


def belonging(web, row, at):
    """A pairing that belongs to what stands at first, or behind a step, of what is surely a row of ears."""
    first, steps = row
    numbers = sorted(numbers_along((first, steps[:at])))
    stands = web_with(web, numbers)
    taken = [ear[0] for step in steps[:at][-1:] for ear in step]
    later = [number for step in steps[at:] for ear in step for number in ear[1::2]]
    met = places_met(web, numbers)
    left = [place for place in met if not any([place in web[1][number] for number in taken])]
    pairing = Matcher(stands).pairing_of(mask_of(left))
    return tuple(sorted(taken + [numbers[number] for number in pairing] + later))


def pairings_along(web, row):
    """Pairings of a covered web, one that belongs to what stands at first and one to each step of a row of ears."""
    check_covered(web)
    if not is_row_of(web, row):
        raise BadRow(row)
    return tuple([belonging(web, row, at) for at in range(len(row[1]) + 1)])
