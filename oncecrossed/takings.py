"""Covered webs taken apart into pieces, along inner tight lots."""

from oncecrossed.bricks import cut_paper, is_two_sided, lot_told
from oncecrossed.covered import check_covered
from oncecrossed.errors import BadLots, BadTaking
from oncecrossed.laid import is_inner_size, laid_of, loose_row, sides_laid
from oncecrossed.lists import is_petersen_web
from oncecrossed.masks import full_mask, lot_of, mask_of
from oncecrossed.webs import is_lot_of, is_told, places_but


class Side:
    """A web that came of layings, with what its ties and places are in the whole web.

    For each tie it has the number there, for each place the mask of the lot for which the place stands.
    """

    def __init__(self, web, numbers, stands):
        self.web = web
        self.numbers = numbers
        self.stands = stands

    def with_laid(self, lot):
        """The web that comes if a lot is laid together, too."""
        web, kept = laid_of(self.web, lot)
        rest = [self.stands[place] for place in places_but(self.web, lot)]
        return Side(web, tuple([self.numbers[at] for at in kept]), rest + [self.mask_for(lot)])

    def both_sides(self, lot):
        """The lot's side and the rest's side of a tight lot."""
        return self.with_laid(places_but(self.web, lot)), self.with_laid(lot)

    def mask_for(self, lot):
        """The mask of the lot of the whole web for which a lot stands."""
        return sum([self.stands[place] for place in lot])

    def lot_for(self, mask):
        """The lot of all places that stand for places of a lot of the whole web alone."""
        return tuple([place for place, stand in enumerate(self.stands) if stand & mask == stand])

    def is_cut_by(self, mask):
        """Whether an inner lot stands for a lot of the whole web, which does not cross those that are laid together."""
        return is_inner_size(self.web, self.lot_for(mask))


def whole_side(web):
    """A web in which nothing is laid together yet."""
    return Side(web, tuple(range(len(web[1]))), [1 << place for place in range(web[0])])


def tree_along(side, masks):
    """A taking that has cuts at the lots of the whole web that are given, and more ones behind them."""
    if masks:
        lot = side.lot_for(masks[0])
    else:
        paper = cut_paper(side.web)
        if paper is None:
            return ("piece",)
        lot = lot_told(paper)
    near, far = [tree_along(half, [mask for mask in masks if half.is_cut_by(mask)]) for half in side.both_sides(lot)]
    return ("cut", lot, near, far)


def any_taking(web):
    """A taking of what is surely a covered web."""
    return tree_along(whole_side(web), [])


def taking(web):
    """A taking of a covered web."""
    check_covered(web)
    return any_taking(web)


def is_inner_tight(web, thing):
    """Whether any value is an inner tight lot of what is surely a covered web."""
    return is_lot_of(web, thing) and is_inner_size(web, thing) and loose_row(web, thing) is None


def is_taking_of(web, thing):
    """Whether any value is a taking of what is surely a covered web."""
    if is_told(thing, "piece", 1):
        return cut_paper(web) is None
    if not is_told(thing, "cut", 4) or not is_inner_tight(web, thing[1]):
        return False
    near, far = sides_laid(web, thing[1])
    return is_taking_of(near[0], thing[2]) and is_taking_of(far[0], thing[3])


def is_taking(web, thing):
    """Whether any value is a taking of a covered web."""
    check_covered(web)
    return is_taking_of(web, thing)


def check_taking(web, tree):
    """Raises BadWeb with any value that is no covered web, and BadTaking with any value that is no taking of it."""
    check_covered(web)
    if not is_taking_of(web, tree):
        raise BadTaking(tree)


def leaf_sides(side, tree):
    """The leaves of what is surely a taking, in their order."""
    if tree[0] == "piece":
        return [side]
    near, far = side.both_sides(tree[1])
    return leaf_sides(near, tree[2]) + leaf_sides(far, tree[3])


def leaves(web, tree):
    """The leaves of a taking, each with the numbers of its ties in the whole web."""
    check_taking(web, tree)
    return tuple([(leaf.web, leaf.numbers) for leaf in leaf_sides(whole_side(web), tree)])


def cut_masks(side, tree):
    """For each cut of what is surely a taking, the mask of the lot of the whole web."""
    if tree[0] == "piece":
        return []
    near, far = side.both_sides(tree[1])
    return [side.mask_for(tree[1])] + cut_masks(near, tree[2]) + cut_masks(far, tree[3])


def lots_along(web, tree):
    """The lots of what is surely a taking."""
    full = full_mask(web)
    masks = cut_masks(whole_side(web), tree)
    # A mask is odd if its lot has the place 0; otherwise the rest has it.
    return tuple(sorted([lot_of(mask if mask & 1 else full ^ mask) for mask in masks]))


def lots_of(web, tree):
    """The lots of a taking, each as the one that has the place 0, ascending."""
    check_taking(web, tree)
    return lots_along(web, tree)


def are_crossing(one, other, full):
    """Whether two lots of a web cross, told as masks that have the place 0 in common."""
    both = one & other
    return both != one and both != other and one | other != full


def are_apart(web, lots):
    """Whether lots that have the place 0 do not cross, any two of them."""
    masks = [mask_of(lot) for lot in lots]
    full = full_mask(web)
    return not any([are_crossing(one, other, full) for one in masks for other in masks])


def are_taking_lots(web, thing):
    """Whether any value is an ascending tuple of inner tight lots with the place 0, no two of which cross."""
    if not isinstance(thing, tuple) or not all([is_lot_of(web, lot) and 0 in lot for lot in thing]):
        return False
    if list(thing) != sorted(set(thing)) or not are_apart(web, thing):
        return False
    return all([is_inner_tight(web, lot) for lot in thing])


def taking_by(web, lots):
    """A taking of a covered web that has these lots, and perhaps more."""
    check_covered(web)
    if not are_taking_lots(web, lots):
        raise BadLots(lots)
    return tree_along(whole_side(web), [mask_of(lot) for lot in lots])


def counted_pieces(web, tree):
    """How many leaves of what is surely a taking are bricks, Petersen bricks and braces."""
    pieces = [leaf.web for leaf in leaf_sides(whole_side(web), tree)]
    bricks = [piece for piece in pieces if not is_two_sided(piece)]
    return (len(bricks), len([piece for piece in bricks if is_petersen_web(piece)]), len(pieces) - len(bricks))


def piece_numbers(web):
    """How many bricks, Petersen bricks and braces the leaves of a covered web's takings have."""
    check_covered(web)
    return counted_pieces(web, any_taking(web))
