"""The texts of webs."""

from oncecrossed.errors import BadText
from oncecrossed.webs import MOST_PLACES, check_web


def text_of(web):
    """The text of a web."""
    check_web(web)
    return "\n".join([f"places {web[0]}"] + [f"{a} {b}" for a, b in web[1]])


def read_web(text):
    """The web with a text."""
    if not isinstance(text, str):
        raise BadText(0)
    lines = text.split("\n")
    heads = {f"places {places}": places for places in range(1, MOST_PLACES + 1)}
    if lines[0] not in heads:
        raise BadText(1)
    places = heads[lines[0]]
    return (places, read_ties(lines, places))


def read_ties(lines, places):
    """The ties of the lines of a text behind the first one."""
    pairs = {f"{a} {b}": (a, b) for b in range(places) for a in range(b)}
    ties = []
    for at, line in enumerate(lines[1:], 2):
        if line not in pairs or (ties and pairs[line] < ties[-1]):
            raise BadText(at)
        ties.append(pairs[line])
    return tuple(ties)
