"""Lots written as masks: integers whose bits are the places. Searches over lots are quick in this form."""


def mask_of(lot):
    """The mask of a lot."""
    return sum([1 << place for place in lot])


def lot_of(mask):
    """The lot of a mask."""
    return tuple([place for place in range(mask.bit_length()) if (mask >> place) & 1])


def full_mask(web):
    """The mask of all places of a web."""
    return (1 << web[0]) - 1


def near_masks(web):
    """For each place of a web, the mask of the places that are tied to it."""
    near = [0] * web[0]
    for a, b in web[1]:
        near[a] |= 1 << b
        near[b] |= 1 << a
    return near


def part_masks(near, mask):
    """The masks of the parts of the web within a lot, by their least places."""
    parts = []
    left = mask
    while left:
        part = part_from(near, left, left & -left)
        parts.append(part)
        left ^= part
    return parts


def part_from(near, mask, start):
    """The mask of all places of a lot that are joined, within it, with the places of a start."""
    part = start
    fresh = start
    while fresh:
        met = 0
        for place in lot_of(fresh):
            met |= near[place]
        fresh = met & (mask ^ part)
        part |= fresh
    return part


def odd_parts(near, mask):
    """How many parts of the web within a lot are odd."""
    return sum([len(lot_of(part)) % 2 for part in part_masks(near, mask)])
