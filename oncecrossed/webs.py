"""Webs, lots and cuts, parts, rings and sides."""

from oncecrossed.errors import BadLot, BadTie, BadWeb
from oncecrossed.masks import full_mask, lot_of, near_masks, part_masks

MOST_PLACES = 12


def is_whole(thing):
    """Whether any value is an integer; a bool is none."""
    return isinstance(thing, int) and not isinstance(thing, bool)


def is_below(thing, bound):
    """Whether any value is an integer from 0 on and below a bound."""
    return is_whole(thing) and 0 <= thing < bound


def is_pair(thing):
    """Whether any value is a tuple of two items."""
    return isinstance(thing, tuple) and len(thing) == 2


def is_told(thing, word, many):
    """Whether any value is a tuple of so many items that begins with a word, as certificates do."""
    return isinstance(thing, tuple) and len(thing) == many and thing[0] == word


def is_tie(thing, places):
    """Whether any value is a pair of places, of so many, with the first one below the second one."""
    return is_pair(thing) and is_below(thing[1], places) and is_below(thing[0], thing[1])


def is_web(thing):
    """Whether any value is a web."""
    if not is_pair(thing):
        return False
    places, ties = thing
    if not is_whole(places) or not 1 <= places <= MOST_PLACES or not isinstance(ties, tuple):
        return False
    return all([is_tie(tie, places) for tie in ties]) and list(ties) == sorted(ties)


def check_web(thing):
    """Raises BadWeb with any value that is no web."""
    if not is_web(thing):
        raise BadWeb(thing)


def is_lot_of(web, thing):
    """Whether any value is a lot of what is surely a web."""
    if not isinstance(thing, tuple) or not all([is_below(place, web[0]) for place in thing]):
        return False
    return list(thing) == sorted(set(thing))


def check_lot(web, thing):
    """Raises BadLot with any value that is no lot of a web."""
    if not is_lot_of(web, thing):
        raise BadLot(thing)


def is_tie_number(web, thing):
    """Whether any value is the number of a tie of a web."""
    return is_below(thing, len(web[1]))


def check_tie(web, thing):
    """Raises BadTie with any value that is no tie's number."""
    if not is_tie_number(web, thing):
        raise BadTie(thing)


def is_lot(web, thing):
    """Whether any value is a lot of a web."""
    check_web(web)
    return is_lot_of(web, thing)


def is_place(web, thing):
    """Whether any value is a place of a web."""
    return is_below(thing, web[0])


def plain_of(web):
    """The plain web of what is surely a web."""
    return (web[0], tuple(sorted(set(web[1]))))


def plain_web(web):
    """The web with each pair once."""
    check_web(web)
    return plain_of(web)


def places_but(web, lot):
    """All places that are not in a lot."""
    return tuple([place for place in range(web[0]) if place not in lot])


def rest_of(web, lot):
    """The lot of all places that are not in a lot."""
    check_web(web)
    check_lot(web, lot)
    return places_but(web, lot)


def cut_ties(web, lot):
    """The cut of what is surely a lot of a web."""
    return tuple([number for number, (a, b) in enumerate(web[1]) if (a in lot) != (b in lot)])


def cut_of(web, lot):
    """The numbers of all ties with just one end in a lot."""
    check_web(web)
    check_lot(web, lot)
    return cut_ties(web, lot)


def web_of(web, lot):
    """The web of the places of a lot, numbered anew, with all ties between them."""
    names = {place: at for at, place in enumerate(lot)}
    return (len(lot), tuple([(names[a], names[b]) for a, b in web[1] if a in names and b in names]))


def web_with(web, numbers):
    """The web of all places with some of the ties, in their order."""
    return (web[0], tuple([web[1][number] for number in numbers]))


def numbers_but(web, numbers):
    """The numbers of all ties that are not among some."""
    return tuple([number for number in range(len(web[1])) if number not in numbers])


def within(web, lot):
    """The web within a lot that has a place."""
    check_web(web)
    check_lot(web, lot)
    if not lot:
        raise BadLot(lot)
    return web_of(web, lot)


def without(web, lot):
    """The web within the rest of a lot that has not all places."""
    check_web(web)
    check_lot(web, lot)
    if len(lot) == web[0]:
        raise BadLot(lot)
    return web_of(web, places_but(web, lot))


def ends_of(web, number):
    """The pair of a tie."""
    check_web(web)
    check_tie(web, number)
    return web[1][number]


def part_lots(web):
    """The parts of what is surely a web."""
    return tuple([lot_of(part) for part in part_masks(near_masks(web), full_mask(web))])


def parts_of(web):
    """All parts of a web, as lots, ascending."""
    check_web(web)
    return part_lots(web)


def is_joined(web):
    """Whether a web has just one part."""
    check_web(web)
    return len(part_lots(web)) == 1


def ways_from(web, root):
    """For each place that is joined with a place, the numbers of ties that lead there from it."""
    ways = {root: ()}
    waiting = [root]
    while waiting:
        place = waiting.pop()
        for number, (a, b) in enumerate(web[1]):
            if place in (a, b) and a + b - place not in ways:
                ways[a + b - place] = ways[place] + (number,)
                waiting.append(a + b - place)
    return ways


def closed_ring(near, number, far):
    """The ring of a tie and two ways from one place to its ends, without what both ways begin with."""
    same = 0
    while same < min(len(near), len(far)) and near[same] == far[same]:
        same += 1
    return near[same:] + (number,) + far[same:][::-1]


def judge_sides(web):
    """A certificate: two sides of a web, or a ring with an odd number of ties."""
    check_web(web)
    ways = {}
    for part in part_lots(web):
        ways.update(ways_from(web, part[0]))
    for number, (a, b) in enumerate(web[1]):
        if len(ways[a]) % 2 == len(ways[b]) % 2:
            return ("ring", closed_ring(ways[a], number, ways[b]))
    return ("sides", tuple([place for place in range(web[0]) if len(ways[place]) % 2 == 0]))


def are_sides(web, lot):
    """Whether each tie has one end in a lot and one in its rest."""
    return all([(a in lot) != (b in lot) for a, b in web[1]])


def sides_hold(web, thing):
    """Whether any value is a certificate as judge_sides returns one."""
    check_web(web)
    if is_told(thing, "sides", 2):
        return is_lot_of(web, thing[1]) and are_sides(web, thing[1])
    return is_told(thing, "ring", 2) and is_ring_of(web, thing[1]) and len(thing[1]) % 2 == 1


def leads_round(web, ring, start):
    """Whether ties lead from a place, one behind the other, back to it, and meet each place once."""
    place = start
    met = []
    for number in ring:
        a, b = web[1][number]
        if place in met or place not in (a, b):
            return False
        met.append(place)
        place = a + b - place
    return place == start


def is_ring_of(web, thing):
    """Whether any value is a ring of what is surely a web."""
    if not isinstance(thing, tuple) or not all([is_tie_number(web, number) for number in thing]):
        return False
    if len(thing) < 2 or len(set(thing)) < len(thing):
        return False
    return any([leads_round(web, thing, start) for start in web[1][thing[0]]])


def is_ring(web, thing):
    """Whether any value is a ring of a web."""
    check_web(web)
    return is_ring_of(web, thing)
