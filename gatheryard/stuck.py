"""Stuck heaps: what a RULE may leave where it is for ever."""

from gatheryard.basics import frozen, lots_by_size, mask_of, masks_within, places_in
from gatheryard.errors import CanNot
from gatheryard.heaps import holder_table, is_heap, live
from gatheryard.leads import weave_of, woven
from gatheryard.leastlots import lies_in_some
from gatheryard.parts import foremost, parts
from gatheryard.rules import areas_many, pick_masks


def may_stay(rule, heap):
    """The set of the objects whose sight is one area or has their own area among its picks."""
    return tuple([one for one, (area, picks) in enumerate(areas_and_picks(rule, heap)) if (picks >> area) & 1])


def must_stay(rule, heap):
    """The set of the objects whose sight is one area or has their own area as its only pick."""
    return tuple([one for one, (area, picks) in enumerate(areas_and_picks(rule, heap)) if picks == 1 << area])


def is_stuck(rule, heap):
    """Whether all objects are dead and may stay."""
    return live(heap) == () and len(may_stay(rule, heap)) == len(heap[1])


def heap_of(rule, lot, weave):
    """The HEAP that this WEAVE of lot makes."""
    objects = []
    for area in lot:
        objects.append((area, tuple([place for place, own in enumerate(weave) if area in own])))
    return (areas_many(rule), tuple(objects), ())


def stuck_heap(rule, lot):
    """A stuck heap of lot."""
    return heap_of(rule, lot, weave_of(rule, lot))


def is_stuck_heap(rule, lot, thing):
    """Whether thing is a stuck heap of lot."""
    if not is_heap(thing) or thing[0] != areas_many(rule):
        return False
    if sorted([area for area, _ in thing[1]]) != list(lot):
        return False
    return len(parts(thing)) == 1 and is_stuck(rule, thing)


def stuck_many(rule, lot):
    """How many stuck heaps of lot there are whose objects are in the order of its areas."""
    # A stuck heap is a WEAVE, its sights, and for each object either choice of a tie to itself.
    return weaves_many(pick_masks(rule), mask_of(lot)) << len(lot)


def least_missed(rule, course):
    """Of the LOTS that are missed by course the least of those with the fewest areas, None without."""
    masks = pick_masks(rule)
    for lot in lots_by_size(list(range(areas_many(rule)))):
        if (len(lot) == 1 or woven(masks, mask_of(lot))) and not lies_in_some(lot, course):
            return lot
    return None


def stuck_against(rule, course):
    """A HEAP of fewest objects, which all may stay, a foremost part of which course never sweeps at once."""
    missed = least_missed(rule, course)
    if missed is None:
        raise CanNot()
    if len(missed) == 1:
        return (areas_many(rule), ((missed[0], ()),), ())
    return stuck_heap(rule, missed)


def is_against(rule, course, thing):
    """Whether thing is such a HEAP, of however many objects."""
    if not is_heap(thing) or thing[0] != areas_many(rule) or not is_stuck(rule, thing):
        return False
    areas = [area for area, _ in thing[1]]
    return any([not lies_in_some([areas[one] for one in part], course) for part in foremost(thing)])


def fewest_changed(rule, heap):
    """The fewest ties to take away and to put in such that all objects may stay."""
    heap = frozen(heap)
    masks, tied_from = pick_masks(rule), holder_table(heap)
    there = mask_of([area for area, _ in heap[1]])
    fewest = 0
    # The holders of one object are changed without any other object's, so each one is looked at alone.
    for one, pair in enumerate(heap[1]):
        held = [0 for _ in range(heap[0])]
        for near in tied_from[one]:
            held[heap[1][near][0]] += 1
        seen = [mask for mask in range(there + 1) if mask & there == mask and (masks[mask] >> pair[0]) & 1]
        fewest += min([changes_for(mask, pair[0], held) for mask in seen])
    return fewest


def areas_and_picks(rule, heap):
    """For each object the pair of its area and the mask of the picks of its sight."""
    heap = frozen(heap)
    masks, tied_from = pick_masks(rule), holder_table(heap)
    found = []
    for one, pair in enumerate(heap[1]):
        seen = mask_of([heap[1][near][0] for near in tied_from[one]]) | (1 << pair[0])
        found.append((pair[0], masks[seen]))
    return found


def changes_for(seen, area, held):
    """How many ties change so that an object in area, held so often from each, has the mask seen as its sight."""
    changes = 0
    for other, many in enumerate(held):
        if (seen >> other) & 1 == 0:
            changes += many
        elif many == 0 and other != area:
            changes += 1
    return changes


def weaves_many(masks, inside):
    """How many WEAVES the LOT of the mask inside has, masks being those of a RULE."""
    # Each area of a mask is given a LOT within it that may pick the area. Then the areas fall into groups, each
    # reached from each; heads are those into which nothing leads from outside. single has how often all areas are
    # one group; signed how often they are groups with nothing between them, less where these are of even number.
    # Summed over all ways to take some of its heads as signed does, each choice is counted just once.
    single, signed = {}, {}
    for mask in masks_within(inside):
        ways = {area: lots_picking(masks, mask, area) for area in places_in(mask)}
        lesser = masks_within(mask)[:-1]
        others = sum([signed[own] * product_at(ways, mask - own) for own in lesser])
        signed[mask] = product_at(ways, mask) - others
        parted = sum([single[own] * signed[mask - own] for own in lesser if own & mask & -mask])
        single[mask] = signed[mask] + parted
    return single[inside]


def lots_picking(masks, inside, area):
    """How many LOTS of two or more areas of the mask inside have area among their picks."""
    return len([own for own in masks_within(inside) if (masks[own] >> area) & 1]) - 1


def product_at(ways, inside):
    """The numbers that ways has for the areas of the mask inside, multiplied."""
    many = 1
    for area in places_in(inside):
        many = many * ways[area]
    return many
