"""Pinned objects: those in told areas that a sweep frees as it does others, but never moves."""

from gatheryard.basics import is_set, lots_by_size, lots_within, mask_of, places_in
from gatheryard.chains import chain_masks
from gatheryard.errors import CanNot
from gatheryard.heaps import is_heap
from gatheryard.leads import closed_in, woven
from gatheryard.leastlots import lies_in, lies_in_some
from gatheryard.parts import parts
from gatheryard.rules import areas_many, pick_masks, rule_of
from gatheryard.stuck import least_missed, may_stay, stuck_heap


def is_locked(rule, pins, lot):
    """Whether each LOT that is closed in within lot, lot itself apart, has an area of pins."""
    return woven(pinned_masks(rule, pins), mask_of(lot))


def locked_lots(rule, pins):
    """The list, ascending, of the locked LOTS."""
    masks = pinned_masks(rule, pins)
    return [lot for lot in lots_within(list(range(areas_many(rule)))) if woven(masks, mask_of(lot))]


def bare_lots(rule, pins, lot):
    """The list, fewest areas first, of the lesser LOTS that are closed in within lot and have no area of pins."""
    return [own for own in closed_in(rule, lot)[:-1] if not any([area in pins for area in own])]


def pinned_heap(rule, pins, lot):
    """A pinned heap of lot."""
    if not is_locked(rule, pins, lot):
        raise CanNot()
    heap = stuck_heap(rule_of(pinned_masks(rule, pins)), lot)
    return (heap, objects_pinned(heap, pins))


def is_pinned_heap(rule, pins, lot, thing):
    """Whether thing is a pinned heap of lot."""
    if not isinstance(thing, tuple) or len(thing) != 2 or not is_heap(thing[0]):
        return False
    heap, pinned = thing
    if heap[0] != areas_many(rule) or heap[2] != () or sorted([area for area, _ in heap[1]]) != list(lot):
        return False
    if not is_set(pinned, len(heap[1])) or pinned != objects_pinned(heap, pins) or len(parts(heap)) != 1:
        return False
    return lies_in(list(range(len(heap[1]))), pinned + may_stay(rule, heap))


def pins_fine(rule, pins, course):
    """Whether pins are fine for course."""
    masks = pinned_masks(rule, pins)
    return all([lies_in_some(places_in(own), course) for own in chain_masks(masks, len(masks) - 1)])


def least_locked(rule, pins, course):
    """Of the LOTS of one area and the locked ones that lie in no LOT of course the least of fewest, None without."""
    return least_missed(rule_of(pinned_masks(rule, pins)), course)


def greatest_pins(rule, course):
    """The list, ascending, of the sets of areas that are fine as pins and lie within no greater one that is."""
    fine = [pins for pins in [()] + lots_within(list(range(areas_many(rule)))) if pins_fine(rule, pins, course)]
    return [pins for pins in fine if not any([lies_in(pins, other) and pins != other for other in fine])]


def fewest_unpinned(rule, pins, course):
    """Of the least sets of areas without which pins are fine the least."""
    for struck in [()] + lots_by_size(pins):
        if pins_fine(rule, tuple([area for area in pins if area not in struck]), course):
            return struck
    raise CanNot()


def width_with(rule, pins):
    """The least number of areas such that pins are fine for all LOTS of at most so many."""
    masks = pinned_masks(rule, pins)
    return max([len(places_in(own)) for own in chain_masks(masks, len(masks) - 1)])


def pinned_masks(rule, pins):
    """The masks of the picks of rule, but each LOT may pick its areas of pins, too.

    Who may be pinned stays as if its area was picked: so locked is for rule what woven is for these picks.
    """
    inside = mask_of(pins)
    return [picks | (own & inside) for own, picks in enumerate(pick_masks(rule))]


def objects_pinned(heap, pins):
    """The set of the objects that lie in areas of pins."""
    return tuple([one for one, (area, _) in enumerate(heap[1]) if area in pins])
