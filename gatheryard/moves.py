"""Moves: where the objects of a HEAP come to lie, sweep by sweep, by a RULE."""

from gatheryard.basics import check_places, frozen, is_number, mark, mask_of, places_in
from gatheryard.errors import TooMuch, Unfit
from gatheryard.heaps import cut_to, dead, holder_table, relaid
from gatheryard.rows import dead_aheads, freed_now
from gatheryard.rules import is_plain, pairs_many, pick_masks

# How many STANDS are listed at most.
MOST_STANDS = 400


def is_stand(heap, thing):
    """Whether thing is a STAND of heap."""
    if not isinstance(thing, tuple) or len(thing) != len(heap[1]):
        return False
    if not all([area is None or is_number(area) and 0 <= area < heap[0] for area in thing]):
        return False
    gone, tied_from = mark(dead(heap)), holder_table(frozen(heap))
    freed = [one for one, area in enumerate(thing) if area is None]
    return all([one in gone and all([thing[near] is None for near in tied_from[one]]) for one in freed])


def first_stand(heap):
    """The STAND in which all objects lie as in heap."""
    return tuple([area for area, _ in heap[1]])


def heap_at(heap, stand):
    """The HEAP of the objects that are not freed, where they lie at stand."""
    # Freed objects are cut away, so it does not matter where they are put.
    there = relaid(heap, [0 if area is None else area for area in stand])
    return cut_to(there, [one for one, area in enumerate(stand) if area is not None])


def moves_of(heap, rule, lot):
    """For each object the set of the areas in which it may lie behind a sweep of lot, () if that frees it."""
    check_pairs(heap, rule)
    return tuple([places_in(mask) for mask in moves_from(yard_of(heap, rule), first_stand(heap), lot)])


def stands_behind(heap, rule, stand, lot):
    """The list, ascending, of all STANDS that may be behind a sweep of lot at stand."""
    check_pairs(heap, rule)
    choices = [places_in(mask) if mask else (None,) for mask in moves_from(yard_of(heap, rule), stand, lot)]
    many = 1
    for areas in choices:
        many = many * len(areas)
    if many > MOST_STANDS:
        raise TooMuch()
    found = [()]
    for areas in choices:
        found = [begun + (area,) for begun in found for area in areas]
    return found


def are_stands(heap, rule, lots, thing):
    """Whether thing is a tuple of STANDS that may be behind 0, 1, .. of lots."""
    check_pairs(heap, rule)
    if not isinstance(thing, tuple) or len(thing) != len(lots) + 1 or not all([is_stand(heap, own) for own in thing]):
        return False
    if thing[0] != first_stand(heap):
        return False
    yard = yard_of(heap, rule)
    return all([is_move(moves_from(yard, thing[at], lot), thing[at + 1]) for at, lot in enumerate(lots)])


def moved(heap, rule, lot):
    """The HEAP behind a sweep of lot."""
    return heap_at(heap, stands_of(heap, rule, (lot,))[1])


def stands_of(heap, rule, lots):
    """The list of the STANDS behind 0, 1, .. of lots."""
    check_pairs(heap, rule)
    check_plain(rule)
    return stands_along(yard_of(heap, rule), first_stand(heap), lots)


def freed_when(heap, rule, lots):
    """For each object behind how many of lots it is freed, None if it is not."""
    stands = stands_of(heap, rule, lots)
    found = []
    for one in range(len(heap[1])):
        left = len([stand for stand in stands if stand[one] is not None])
        found.append(left if left < len(stands) else None)
    return tuple(found)


def areas_row(heap, rule, lots, some):
    """The list of the sets of the areas in which those of some lie that are not freed, behind 0, 1, .. of lots."""
    check_places(some, len(heap[1]))
    stands = stands_of(heap, rule, lots)
    return [tuple(sorted(set([stand[one] for one in some if stand[one] is not None]))) for stand in stands]


def check_pairs(heap, rule):
    """Raises Unfit if rule has not as many pairs as a RULE for the areas of heap."""
    if len(rule) != pairs_many(heap[0]):
        raise Unfit()


def check_plain(rule):
    """Raises Unfit if rule is not plain."""
    if not is_plain(rule):
        raise Unfit()


def yard_of(heap, rule):
    """What sweeps of heap by rule go by."""
    heap = frozen(heap)
    masks = pick_masks(rule)
    return yard_with(heap, [masks for _ in range(heap[0])])


def yard_with(heap, picks):
    """What sweeps of a frozen HEAP go by: the holders, what is ahead of the dead objects, the masks of the picks.

    picks has, for each area, the masks of the picks by the masks of the sights of the objects that lie there.
    """
    return (holder_table(heap), dead_aheads(heap), picks)


def moves_from(yard, stand, lot):
    """For each object the mask of the areas in which it may lie behind a sweep of lot at stand, 0 if it is freed."""
    tied_from, ahead, picks = yard
    gone = mask_of([one for one, area in enumerate(stand) if area is None])
    inside = mask_of([one for one, area in enumerate(stand) if area in lot])
    gone = gone | freed_now(ahead, gone, inside)
    found = []
    for one, area in enumerate(stand):
        if (gone >> one) & 1:
            found.append(0)
        elif (inside >> one) & 1:
            seen = [stand[near] for near in tied_from[one] if stand[near] is not None]
            found.append(picks[area][mask_of(seen) | (1 << area)])
        else:
            found.append(1 << area)
    return found


def is_move(moves, stand):
    """Whether each object lies at stand in one of the areas that moves has for it, or is freed where it has none."""
    return all([mask == 0 if area is None else (mask >> area) & 1 == 1 for mask, area in zip(moves, stand)])


def stand_behind(yard, stand, lot):
    """The STAND behind a sweep of lot at stand by a plain RULE."""
    return tuple([mask.bit_length() - 1 if mask else None for mask in moves_from(yard, stand, lot)])


def stands_along(yard, stand, lots):
    """The list of the STANDS behind 0, 1, .. of lots, from stand on, by a plain RULE."""
    stands = [stand]
    for lot in lots:
        stand = stand_behind(yard, stand, lot)
        stands.append(stand)
    return stands
