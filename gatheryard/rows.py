"""Rows of sweeps that move nothing, and which objects they free."""

from gatheryard.basics import check_places, frozen, lots_within, mark, mask_of, places_in, reach_masks
from gatheryard.errors import CanNot, Unfit
from gatheryard.heaps import ahead_of, areas_of, dead, holder_table, is_lot, live
from gatheryard.parts import dead_parts


def is_row(thing, m):
    """Whether thing is a ROW for m areas."""
    return isinstance(thing, tuple) and all([is_lot(lot, m) for lot in thing])


def freed_by_row(heap, row):
    """The tuple of the sets of the objects that are freed, LOT by LOT."""
    heap = frozen(heap)
    ahead, inner = dead_aheads(heap), area_masks(heap)
    gone, found = 0, []
    for lot in row:
        fresh = freed_now(ahead, gone, lot_mask(inner, lot))
        gone = gone | fresh
        found.append(places_in(fresh))
    return tuple(found)


def row_frees(heap, row, goal):
    """Whether row frees goal."""
    check_goal(heap, goal)
    return gone_behind(frozen(heap), row, mask_of(goal))


def is_freeing(heap, goal, many, thing):
    """Whether thing is a ROW of LOTS of at most many areas that frees goal."""
    check_goal(heap, goal)
    if not is_row(thing, heap[0]) or not all([len(lot) <= many for lot in thing]):
        return False
    return gone_behind(frozen(heap), thing, mask_of(goal))


def many_needed(heap, goal):
    """The least number of areas in a LOT with which there is a ROW that frees goal."""
    return max([len(areas_of(heap, part)) for part in parts_before(heap, goal)], default=1)


def barring_part(heap, goal, many):
    """The least of the parts before goal that touch more than many areas."""
    barring = barring_parts(heap, goal, many)
    if barring == []:
        raise CanNot()
    return barring[0]


def is_barring_part(heap, goal, many, thing):
    """Whether thing is one of the parts before goal that touch more than many areas."""
    barring = barring_parts(heap, goal, many)
    return is_lot(thing, len(heap[1])) and thing in barring


def least_row(heap, goal, many):
    """Of the ROWS of fewest LOTS, of just many areas each, that free goal the least."""
    heap = frozen(heap)
    if barring_parts(heap, goal, many) != []:
        raise CanNot()
    before = mark(objects_before(heap, goal))
    ahead = {one: mask for one, mask in dead_aheads(heap).items() if one in before}
    inner = area_masks(heap)
    lots = [lot for lot in lots_within(list(range(heap[0]))) if len(lot) == many]
    row = first_row([(lot, lot_mask(inner, lot)) for lot in lots], ahead, mask_of(goal))
    if row is None:
        raise CanNot()
    return row


def first_row(lots, ahead, goal):
    """Of the ROWS of fewest of lots that free the mask goal the least; None without."""
    if goal == 0:
        return ()
    # Each mask of freed objects keeps the first ROW to it. Masks come in the order of their ROWS, so that is
    # the least one of the fewest LOTS.
    rows = {0: ()}
    waiting, at = [0], 0
    while at < len(waiting):
        gone = waiting[at]
        at += 1
        for lot, inside in lots:
            behind = gone | freed_now(ahead, gone, inside)
            if behind in rows:
                continue
            rows[behind] = rows[gone] + (lot,)
            if goal & behind == goal:
                return rows[behind]
            waiting.append(behind)
    return None


def check_goal(heap, goal):
    """Raises NoPlace for the first object of goal that is not there, then Unfit if one is live."""
    check_places(goal, len(heap[1]))
    alive = mark(live(heap))
    if any([one in alive for one in goal]):
        raise Unfit()


def objects_before(heap, goal):
    """The set of the objects that are ahead of one of goal."""
    return tuple(sorted(set([near for one in goal for near in ahead_of(heap, one)])))


def parts_before(heap, goal):
    """The list, ascending, of the parts before goal."""
    check_goal(heap, goal)
    before = mark(objects_before(heap, goal))
    return [part for part in dead_parts(heap) if part[0] in before]


def barring_parts(heap, goal, many):
    """The list, ascending, of the parts before goal that touch more than many areas."""
    return [part for part in parts_before(heap, goal) if len(areas_of(heap, part)) > many]


def dead_aheads(heap):
    """For each dead object of a frozen HEAP the mask of the objects ahead of it."""
    ahead = reach_masks(holder_table(heap))
    return {one: ahead[one] for one in dead(heap)}


def area_masks(heap):
    """For each area of a frozen HEAP the mask of the objects that lie there."""
    masks = [0 for _ in range(heap[0])]
    for one, pair in enumerate(heap[1]):
        masks[pair[0]] = masks[pair[0]] | (1 << one)
    return masks


def lot_mask(inner, lot):
    """The mask of the objects in lot, inner having those of each area."""
    mask = 0
    for area in lot:
        mask = mask | inner[area]
    return mask


def freed_now(ahead, gone, inside):
    """The mask of the objects that a sweep frees behind which gone are freed, inside lying in its LOT."""
    found = 0
    # A dead object is freed exactly if all that is left ahead of it lies in the LOT.
    for one, mask in ahead.items():
        if mask & (gone | inside) == mask and (gone >> one) & 1 == 0:
            found = found | (1 << one)
    return found


def gone_behind(heap, row, goal):
    """Whether the sweeps of row free all of the mask goal of a frozen HEAP."""
    ahead, inner = dead_aheads(heap), area_masks(heap)
    gone = 0
    for lot in row:
        gone = gone | freed_now(ahead, gone, lot_mask(inner, lot))
        if goal & gone == goal:
            return True
    return goal == 0
