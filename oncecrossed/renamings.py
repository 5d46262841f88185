"""Renamings, and the search for one that leads one web to another."""

from oncecrossed.errors import BadRenaming
from oncecrossed.webs import check_web, is_below, plain_of


def is_renaming(web, thing):
    """Whether any value is a renaming of a web."""
    if not isinstance(thing, tuple) or not all([is_below(place, web[0]) for place in thing]):
        return False
    return sorted(thing) == list(range(web[0]))


def led(web, renaming):
    """The web to which a renaming leads."""
    check_web(web)
    if not is_renaming(web, renaming):
        raise BadRenaming(renaming)
    pairs = [(renaming[a], renaming[b]) for a, b in web[1]]
    return (web[0], tuple(sorted([(min(pair), max(pair)) for pair in pairs])))


def renaming_between(one, other):
    """A renaming that leads one web to another one, None if there is none."""
    check_web(one)
    check_web(other)
    return found_renaming(one, other)


def plain_renaming(one, other):
    """A renaming that leads one plain web to another one, None if there is none."""
    check_web(one)
    check_web(other)
    return found_renaming(plain_of(one), plain_of(other))


def found_renaming(one, other):
    """A renaming between what are surely webs, None if there is none."""
    if one[0] != other[0] or len(one[1]) != len(other[1]):
        return None
    search = Search(tie_table(one), tie_table(other))
    if sorted(search.kinds) != sorted(search.image_kinds):
        return None
    images = search.extended([])
    if images is None:
        return None
    return tuple([image for _, image in sorted(zip(search.order, images))])


def tie_table(web):
    """For each place and each other one, how many ties are between them."""
    table = [[0] * web[0] for _ in range(web[0])]
    for a, b in web[1]:
        table[a][b] += 1
        table[b][a] += 1
    return table


def marks_of(table, kinds):
    """For each place its kind, and how many ties it has to places of which kinds."""
    marks = []
    for place, row in enumerate(table):
        near = sorted([(many, kinds[other]) for other, many in enumerate(row) if many])
        marks.append((kinds[place], tuple(near)))
    return marks


def place_kinds(one, other):
    """Numbers for the places of two tables, equal where a renaming may lead from place to place.

    Places become unlike as soon as their neighbours are, until nothing more comes of it.
    """
    kinds = [0] * len(one)
    other_kinds = [0] * len(other)
    known = 0
    while True:
        marks = marks_of(one, kinds)
        other_marks = marks_of(other, other_kinds)
        ranks = {mark: rank for rank, mark in enumerate(sorted(set(marks + other_marks)))}
        if len(ranks) == known:
            return kinds, other_kinds
        known = len(ranks)
        kinds = [ranks[mark] for mark in marks]
        other_kinds = [ranks[mark] for mark in other_marks]


def place_order(table):
    """All places, each with as many ties as can be to those ahead of it, so that wrong images show early."""
    order = []
    left = list(range(len(table)))
    while left:
        ranks = [(sum([table[place][met] for met in order]), sum(table[place]), -place) for place in left]
        chosen = -max(ranks)[2]
        order.append(chosen)
        left.remove(chosen)
    return order


class Search:
    """A search for images of the places of one web among those of another one."""

    def __init__(self, table, image_table):
        self.table = table
        self.image_table = image_table
        self.kinds, self.image_kinds = place_kinds(table, image_table)
        self.order = place_order(table)

    def fits(self, images, image):
        """Whether the next place, behind those that have images, can have this image."""
        place = self.order[len(images)]
        if image in images or self.kinds[place] != self.image_kinds[image]:
            return False
        row = self.table[place]
        image_row = self.image_table[image]
        return all([row[self.order[at]] == image_row[met] for at, met in enumerate(images)])

    def extended(self, images):
        """Images of all places in their order, that begin with these; None if there are none."""
        if len(images) == len(self.order):
            return images
        for image in range(len(self.order)):
            if self.fits(images, image):
                whole = self.extended(images + [image])
                if whole is not None:
                    return whole
        return None
