"""CHAINS and LINKINGS of RULES, their width, and their order where there is one."""

from gatheryard.basics import lots_by_size, mask_of, masks_within, places_in
from gatheryard.errors import CanNot
from gatheryard.heaps import is_lot
from gatheryard.leads import first_mask, is_woven, woven
from gatheryard.leastlots import joined
from gatheryard.rows import is_row
from gatheryard.rules import areas_many, pick_masks


def chain_of(rule):
    """The CHAIN of rule."""
    return chain_in(rule, tuple(range(areas_many(rule))))


def chain_in(rule, lot):
    """The CHAIN of lot."""
    return tuple([places_in(mask) for mask in chain_masks(pick_masks(rule), mask_of(lot))])


def is_chain(rule, thing):
    """Whether thing is the CHAIN of rule."""
    return is_row(thing, areas_many(rule)) and thing == chain_of(rule)


def width(rule):
    """How many areas the greatest LOT of the CHAIN of rule has."""
    return widest(chain_of(rule))


def is_linking(rule, thing):
    """Whether thing is a LINKING of rule."""
    if not is_row(thing, areas_many(rule)):
        return False
    if sorted([area for lot in thing for area in lot]) != list(range(areas_many(rule))):
        return False
    return offending(pick_masks(rule), [mask_of(lot) for lot in thing]) == {}


def linkings_to(rule, most):
    """The list, ascending, of all LINKINGS of LOTS of at most most areas."""
    # All LINKINGS come of the CHAIN by joining LOTS next to one another.
    rows = [()]
    for lot in chain_of(rule):
        rows = [row + (lot,) for row in rows] + [row[:-1] + (joined((row[-1], lot)),) for row in rows if row != ()]
    return sorted([row for row in rows if widest(row) <= most and is_linking(rule, row)])


def order_of(rule):
    """The order of rule."""
    chain = chain_of(rule)
    if widest(chain) > 1:
        raise CanNot()
    return tuple([lot[0] for lot in chain])


def is_order(rule, thing):
    """Whether thing is an order of rule."""
    return isinstance(thing, tuple) and is_linking(rule, tuple([(area,) for area in thing]))


def bar_to(rule, most):
    """Of the woven LOTS of more than most areas that with the fewest, of these the least."""
    masks = pick_masks(rule)
    for lot in lots_by_size(list(range(areas_many(rule)))):
        if len(lot) > most and woven(masks, mask_of(lot)):
            return lot
    raise CanNot()


def is_bar_to(rule, most, thing):
    """Whether thing is a woven LOT of more than most areas."""
    return is_lot(thing, areas_many(rule)) and len(thing) > most and is_woven(rule, thing)


def chain_masks(masks, inside):
    """The list of the masks of the CHAIN of the LOT of the mask inside, masks being those of a RULE."""
    chain = []
    while inside:
        first = first_mask(masks, inside)
        chain.append(first)
        inside = inside - first
    return chain


def widest(row):
    """How many areas the greatest LOT of row has."""
    return max([len(lot) for lot in row])


def offending(masks, row):
    """The dict, for the masks of the LOTS that lie in none of row and pick from the first that they meet, of that."""
    found, left = {}, sum(row)
    for first in row:
        # What lies in the areas that are left meets none of row ahead of first.
        for own in masks_within(left):
            if own & first not in (0, own) and masks[own] & first:
                found[own] = first
        left = left - first
    return found
