"""Critical webs: each place can be left out by a pairing of all others; they grow from one place by odd ears."""

from oncecrossed.errors import BadPlace, NotCritical
from oncecrossed.masks import Matcher
from oncecrossed.pairings import bars_pairings
from oncecrossed.webs import check_web, is_place, is_tie_number, is_told, is_web, places_but


def kept_place(matcher, web):
    """The first place that no pairing of all other places leaves out, None if there is none."""
    for place in range(web[0]):
        if matcher.missed(matcher.full ^ (1 << place)):
            return place
    return None


def is_critical_web(web):
    """Whether what is surely a web is critical."""
    return kept_place(Matcher(web), web) is None


def is_critical(thing):
    """Whether any value is a critical web."""
    return is_web(thing) and is_critical_web(thing)


def leaving_row(matcher, place):
    """A pairing that leaves a place out, None if there is none."""
    return matcher.pairing_of(matcher.full ^ (1 << place))


def leaving(web, place):
    """A pairing of all places of a web but one, None if there is none."""
    check_web(web)
    if not is_place(web, place):
        raise BadPlace(place)
    return leaving_row(Matcher(web), place)


def way_along(web, stands, thing):
    """The places that the ties of an ear meet, None for any value that is no ear.

    Its ties, an odd number of them, lead from a place that stands over places that do not, each of them met once, to
    a place that stands.
    """
    if not isinstance(thing, tuple) or not all([is_tie_number(web, number) for number in thing]):
        return None
    if len(thing) % 2 == 0:
        return None
    met = [place for place in web[1][thing[0]] if place in stands][:1]
    for number in thing:
        if not met or met[-1] not in web[1][number]:
            return None
        met.append(sum(web[1][number]) - met[-1])
    inner = met[1:-1]
    if met[-1] not in stands or any([place in stands for place in inner]) or len(set(inner)) < len(inner):
        return None
    return met


def are_odd_ears(web, thing):
    """Whether any value is a tuple of odd ears, from the place 0 on, whose inner places are all other places."""
    if not isinstance(thing, tuple):
        return False
    stands = [0]
    for ear in thing:
        way = way_along(web, stands, ear)
        if way is None or len(ear) < 3:
            return False
        stands.extend(way[1:-1])
    return len(stands) == web[0]


def are_ears(web, thing):
    """Whether any value is a tuple of ears by which a web grows from its place 0."""
    check_web(web)
    return are_odd_ears(web, thing)


def way_back(web, stands, place, rows):
    """Ties of two pairings, by turns, that lead from a place to the first one that stands."""
    way = ()
    while place not in stands:
        number = [number for number in rows[len(way) % 2] if place in web[1][number]][0]
        way = way + (number,)
        place = sum(web[1][number]) - place
    return way


def odd_ears(matcher, web):
    """Ears by which what is surely a critical web grows from its place 0.

    A pairing that leaves 0 out has no tie between what stands and what does not. So the ties that it and a pairing
    that leaves out another place have, by turns, lead from that place to one that stands, by one of the latter.
    """
    near = leaving_row(matcher, 0)
    stands = [0]
    ears = []
    while len(stands) < web[0]:
        leading = [(number, a, b) for number, (a, b) in enumerate(web[1]) if (a in stands) != (b in stands)]
        number, a, b = leading[0]
        place = b if a in stands else a
        ear = (number,) + way_back(web, stands, place, (near, leaving_row(matcher, place)))
        stands.extend(way_along(web, stands, ear)[1:-1])
        ears.append(ear)
    return tuple(ears)


def judge_critical(web):
    """A certificate: ears, or a lot that has more odd rests than places, or that the number of places is even."""
    check_web(web)
    return judged_critical(web)


def judged_critical(web):
    """The same for what is surely a web."""
    if web[0] % 2 == 0:
        return ("even",)
    matcher = Matcher(web)
    kept = kept_place(matcher, web)
    if kept is None:
        return ("ears", odd_ears(matcher, web))
    # What bars the other places has two more odd rests than places, or more: the place makes up for one.
    return ("lot", tuple(sorted(matcher.barring_lot(matcher.full ^ (1 << kept)) + (kept,))))


def critical_holds(web, thing):
    """Whether any value is a certificate as judge_critical returns one."""
    check_web(web)
    if web[0] % 2 == 0:
        return is_told(thing, "even", 1)
    if is_told(thing, "ears", 2):
        return are_odd_ears(web, thing[1])
    return is_told(thing, "lot", 2) and thing[1] != () and bars_pairings(web, thing[1])


def shrinking_ring(web):
    """An odd ring of a critical web that meets all places, or leaves a critical web if its places are laid together."""
    check_web(web)
    paper = judged_critical(web)
    if paper[0] != "ears":
        raise NotCritical(paper)
    if not paper[1]:
        return None
    # The first ear is a ring, and the further ears are those of the web in which its places are laid together.
    return paper[1][0]
