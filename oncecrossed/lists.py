"""Lists of webs that are one list up to doubled ties, and the Petersen web."""

from oncecrossed.errors import BadWebs
from oncecrossed.renamings import found_renaming, is_renaming, led
from oncecrossed.webs import check_web, is_below, is_pair, is_told, is_web, plain_of


def petersen():
    """The Petersen web."""
    pairs = []
    for a in range(5):
        pairs.extend([(a, (a + 1) % 5), (a, a + 5), (a + 5, 5 + (a + 2) % 5)])
    return (10, tuple(sorted([(min(pair), max(pair)) for pair in pairs])))


def is_petersen_web(web):
    """Whether what is surely a web is alike to the Petersen web up to doubled ties."""
    return found_renaming(plain_of(web), petersen()) is not None


def is_petersen(web):
    """Whether a web is alike to the Petersen web up to doubled ties."""
    check_web(web)
    return is_petersen_web(web)


def check_webs(thing):
    """Raises BadWebs with any value that is no tuple of webs."""
    if not isinstance(thing, tuple) or not all([is_web(item) for item in thing]):
        raise BadWebs(thing)


def judge_list(ones, others):
    """A certificate that two tuples of webs are one list, None if they are not."""
    check_webs(ones)
    check_webs(others)
    if len(ones) != len(others):
        return None
    plain_others = [plain_of(web) for web in others]
    free = list(range(len(others)))
    rows = []
    # Webs that are alike to one web are alike to one another, so no choice among them is wrong.
    for web in ones:
        row = row_among(plain_of(web), plain_others, free)
        if row is None:
            return None
        free.remove(row[0])
        rows.append(row)
    return ("one", tuple(rows))


def row_among(plain, others, free):
    """The first of some positions at which an alike web stands, with a renaming that leads there, or None."""
    for position in free:
        renaming = found_renaming(plain, others[position])
        if renaming is not None:
            return (position, renaming)
    return None


def leads_to(web, row, others):
    """Whether any value is a position and a renaming that leads the plain web of a web to the one there."""
    if not is_pair(row) or not is_below(row[0], len(others)) or not is_renaming(web, row[1]):
        return False
    return led(plain_of(web), row[1]) == plain_of(others[row[0]])


def list_holds(ones, others, thing):
    """Whether any value is a certificate as judge_list returns one."""
    check_webs(ones)
    check_webs(others)
    if not is_told(thing, "one", 2) or not isinstance(thing[1], tuple):
        return False
    if len(ones) != len(others) or len(thing[1]) != len(ones):
        return False
    if not all([leads_to(web, row, others) for web, row in zip(ones, thing[1])]):
        return False
    return len(set([position for position, _ in thing[1]])) == len(ones)
