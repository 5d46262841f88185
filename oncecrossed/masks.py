"""Lots written as masks: integers whose bits are the places. Searches over lots are quick in this form."""


def mask_of(lot):
    """The mask of a lot."""
    return sum([1 << place for place in lot])


def lot_of(mask):
    """The lot of a mask."""
    return tuple([place for place in range(mask.bit_length()) if (mask >> place) & 1])


def is_single(mask):
    """Whether a mask has just one bit."""
    return mask != 0 and mask & (mask - 1) == 0


def full_mask(web):
    """The mask of all places of a web."""
    return (1 << web[0]) - 1


def near_masks(web):
    """For each place of a web, the mask of the places that are tied to it."""
    near = [0] * web[0]
    for a, b in web[1]:
        near[a] |= 1 << b
        near[b] |= 1 << a
    return near


def part_masks(near, mask):
    """The masks of the parts of the web within a lot, by their least places."""
    parts = []
    left = mask
    while left:
        part = part_from(near, left, left & -left)
        parts.append(part)
        left ^= part
    return parts


def part_from(near, mask, start):
    """The mask of all places of a lot that are joined, within it, with the places of a start."""
    part = start
    fresh = start
    while fresh:
        met = 0
        for place in lot_of(fresh):
            met |= near[place]
        fresh = met & (mask ^ part)
        part |= fresh
    return part


def odd_parts(near, mask):
    """How many parts of the web within a lot are odd."""
    return sum([len(lot_of(part)) % 2 for part in part_masks(near, mask)])


class Matcher:
    """The search for ties that pair the places of a lot, for all lots of one web."""

    def __init__(self, web):
        self.full = full_mask(web)
        self.near = near_masks(web)
        self.ties = [(number, 1 << a, 1 << b) for number, (a, b) in enumerate(web[1])]
        self.known = {0: 0}

    def missed(self, mask):
        """How many places of a lot stay without a partner, at least, if ties within the lot pair the others."""
        if mask not in self.known:
            self.known[mask] = self.missed_anew(mask)
        return self.known[mask]

    def missed_anew(self, mask):
        """The same, from smaller lots: the least place has one of its neighbours as partner, or none."""
        low = mask & -mask
        rest = mask ^ low
        found = []
        for other in lot_of(self.near[low.bit_length() - 1] & rest):
            found.append(self.missed(rest ^ (1 << other)))
            if found[-1] == 0:
                return 0
        found.append(1 + self.missed(rest))
        return min(found)

    def steps(self, mask):
        """The ties that can pair the least place of a lot, each with the lot that is still to be paired."""
        low = mask & -mask
        found = [(number, mask ^ a ^ b) for number, a, b in self.ties if a == low and mask & b]
        return [(number, rest) for number, rest in found if self.missed(rest) == 0]

    def pairing_of(self, mask):
        """The first ascending tuple of ties that pair all places of a lot, None if there is none."""
        if self.missed(mask):
            return None
        numbers = ()
        while mask:
            number, mask = self.steps(mask)[0]
            numbers = numbers + (number,)
        return numbers

    def pairings_of(self, mask):
        """All ascending tuples of ties that pair all places of a lot, ascending."""
        if self.missed(mask):
            return []
        rows = [((), mask)]
        # Places are paired from the least one on, so each tie has a greater number than those ahead of it.
        while rows[0][1]:
            rows = [(numbers + (number,), rest) for numbers, left in rows for number, rest in self.steps(left)]
        return [numbers for numbers, _ in rows]

    def barring_lot(self, mask):
        """A lot within a lot that has as many more odd rests there than places as places stay without a partner.

        These are the neighbours of all places that can stay without one (T. Gallai, J. Edmonds).
        """
        least = self.missed(mask)
        spare = sum([1 << place for place in lot_of(mask) if self.missed(mask ^ (1 << place)) < least])
        touched = 0
        for place in lot_of(spare):
            touched |= self.near[place]
        return lot_of(touched & (mask ^ spare))
