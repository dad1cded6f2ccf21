"""Which areas lead to which by a RULE, woven LOTS, and what is closed in."""

from gatheryard.basics import check_members, frozen, lots_within, mask_of, masks_within, places_in
from gatheryard.errors import CanNot
from gatheryard.heaps import is_lot
from gatheryard.leastlots import lies_in
from gatheryard.rules import areas_many, pick_masks, picks_of


def leads_in(rule, lot):
    """The set of the pairs (one, other) such that one leads to other within lot."""
    ahead = leading(pick_masks(rule), mask_of(lot))
    pairs = [(one, other) for other in ahead for one in places_in(ahead[other]) if one != other]
    return tuple(sorted(pairs))


def lead_shown(rule, lot, one, other):
    """The least LOT that shows that one leads to other within lot."""
    check_members((one, other), lot)
    found = lots_showing(rule, lot, one, other)
    if found == []:
        raise CanNot()
    return found[0]


def is_lead_shown(rule, lot, one, other, thing):
    """Whether thing is a LOT that shows that one leads to other within lot."""
    return is_lot(thing, lot[-1] + 1) and thing in lots_showing(rule, lot, one, other)


def reached(rule, lot, area):
    """The set of the areas that are reached from area within lot."""
    check_members((area,), lot)
    ahead = sources(pick_masks(rule), mask_of(lot))
    return tuple([other for other in lot if (ahead[other] >> area) & 1])


def is_woven(rule, lot):
    """Whether lot is woven."""
    return woven(pick_masks(rule), mask_of(lot))


def woven_lots(rule):
    """The list, ascending, of all woven LOTS."""
    masks = pick_masks(rule)
    return [lot for lot in lots_within(list(range(areas_many(rule)))) if woven(masks, mask_of(lot))]


def closed_in(rule, lot):
    """The list of the LOTS that are closed in within lot, fewest areas first."""
    # All that are closed in lie within one another, so each is what leads to one of its areas, and the mask of a
    # lesser one is less.
    ahead = sources(pick_masks(rule), mask_of(lot))
    return [places_in(mask) for mask in sorted(set(list(ahead.values())))]


def is_closed_in(rule, lot, thing):
    """Whether thing is closed in within lot."""
    return is_lot(thing, lot[-1] + 1) and thing in closed_in(rule, lot)


def first_lot(rule, lot):
    """The LOT that is closed in within lot with the fewest areas."""
    return places_in(first_mask(pick_masks(rule), mask_of(lot)))


def way_into(rule, lot, inner):
    """The least (one, other, shown): one, not in inner, leads to other, in inner, as the least LOT shows."""
    for one, other in leads_in(rule, lot):
        if one not in inner and other in inner:
            return (one, other, lead_shown(rule, lot, one, other))
    raise CanNot()


def weave_of(rule, lot):
    """A WEAVE of lot."""
    if not is_woven(rule, lot):
        raise CanNot()
    # All of lot lead to its pick; from there each other area is reached by what shows the last step to it.
    pick = picks_of(rule, lot)[0]
    found = {pick: frozen(lot)}
    waiting = [pick]
    while waiting:
        one = waiting.pop()
        for other in lot:
            shown = lots_showing(rule, lot, one, other)
            if other not in found and shown != []:
                found[other] = shown[0]
                waiting.append(other)
    return tuple([found[area] for area in lot])


def is_weave(rule, lot, thing):
    """Whether thing is a WEAVE of lot."""
    if not isinstance(thing, tuple) or len(thing) != len(lot):
        return False
    for area, own in zip(lot, thing):
        if not is_lot(own, lot[-1] + 1) or len(own) < 2 or not lies_in(own, lot) or area not in picks_of(rule, own):
            return False
    ahead = closed({area: mask_of(own) for area, own in zip(lot, thing)})
    return all([ahead[area] == mask_of(lot) for area in lot])


def lots_showing(rule, lot, one, other):
    """The list, ascending, of the LOTS that show that one leads to other within lot."""
    if one == other:
        return []
    return [own for own, picks in frozen(rule) if one in own and other in picks and lies_in(own, lot)]


def leading(masks, inside):
    """For each area of the mask inside the mask of it and of those that lead to it, masks being those of a RULE."""
    inner, ahead = masks_within(inside), {}
    for area in places_in(inside):
        found = 0
        for own in inner:
            if (masks[own] >> area) & 1:
                found = found | own
        ahead[area] = found
    return ahead


def closed(ahead):
    """For each area the mask of those from which it is reached, ahead having those that lead to it."""
    reach = dict(ahead)
    for middle in ahead:
        for area in ahead:
            if (reach[area] >> middle) & 1:
                reach[area] = reach[area] | reach[middle]
    return reach


def sources(masks, inside):
    """For each area of the mask inside the mask of those from which it is reached within it."""
    return closed(leading(masks, inside))


def first_mask(masks, inside):
    """The mask of the least LOT that is closed in within the mask inside."""
    return min(sources(masks, inside).values())


def woven(masks, inside):
    """Whether the LOT of the mask inside is woven."""
    return len(places_in(inside)) > 1 and first_mask(masks, inside) == inside
