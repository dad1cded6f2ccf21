"""Parts: objects each of which is come to from each, and what is ahead of them."""

from gatheryard.basics import check_places, frozen, is_set, mark, mask_of, places_in, reach_masks
from gatheryard.errors import Unfit
from gatheryard.heaps import ahead_of, areas_of, dead, holder_table, live, retied, tie_table


def part_of(heap, place):
    """The part that has place."""
    heap = frozen(heap)
    check_places((place,), len(heap[1]))
    return all_parts_of(heap)[place]


def parts(heap):
    """The list, ascending, of all parts."""
    return sorted(set(all_parts_of(frozen(heap))))


def dead_parts(heap):
    """The list, ascending, of the dead parts."""
    gone = mark(dead(heap))
    return [part for part in parts(heap) if part[0] in gone]


def is_part(heap, thing):
    """Whether thing is a part of heap."""
    return is_set(thing, len(heap[1])) and thing in parts(heap)


def is_ahead(heap, near, far):
    """Whether near is ahead of far."""
    check_places((near, far), len(heap[1]))
    return near in ahead_of(heap, far)


def foremost(heap):
    """The list, ascending, of the foremost parts."""
    ahead = ahead_masks(frozen(heap))
    return [part for part in dead_parts(heap) if ahead[part[0]] == mask_of(part)]


def part_row(heap):
    """The list of all dead parts, each behind those ahead of it, the least that can come next next."""
    ahead = ahead_masks(frozen(heap))
    left = dead_parts(heap)
    row = []
    while left:
        part = first_free(left, ahead)
        row.append(part)
        left = [own for own in left if own != part]
    return row


def part_ties(heap):
    """The set of the pairs of unlike places in part_row of which the first is tied to the second."""
    ties = tie_table(frozen(heap))
    row = part_row(heap)
    place_of = {one: place for place, part in enumerate(row) for one in part}
    pairs = [(place_of[near], place_of[far]) for near in place_of for far in ties[near] if far in place_of]
    return tuple(sorted(set([pair for pair in pairs if pair[0] != pair[1]])))


def part_depth(heap, place):
    """The greatest length of a row of unlike parts, each tied to the next, that ends with that of place."""
    last = part_of(heap, place)[0]
    ahead = ahead_masks(frozen(heap))
    # What is ahead of a part is within what is ahead of the parts behind it: fewer first is front to back.
    ordered = sorted([(len(places_in(ahead[part[0]])), part[0]) for part in parts(heap)])
    depths = {}
    for _, one in ordered:
        nearer = [depths[other] for other in depths if (ahead[one] >> other) & 1]
        depths[one] = 1 + max(nearer, default=0)
    return depths[last]


def lots_ahead(heap, place):
    """The LOTS of the parts ahead of that of place, that one last, in the order of part_row."""
    before = mark(ahead_of(heap, place))
    if place in live(heap):
        raise Unfit()
    return [areas_of(heap, part) for part in part_row(heap) if part[0] in before]


def parts_without(heap, near, far):
    """The list, ascending, of the parts of heap without this tie that are no parts of heap."""
    heap = frozen(heap)
    check_tie(heap, near, far)
    whole = mark(parts(heap))
    return [part for part in parts(untied(heap, near, far)) if part not in whole]


def joints(heap):
    """The set of the ties without which some part is no part any more."""
    heap = frozen(heap)
    return tuple([(near, far) for near, far in all_ties(heap) if parts_without(heap, near, far) != []])


def dies_without(heap, near, far):
    """The set of the live objects that are dead without this tie."""
    heap = frozen(heap)
    check_tie(heap, near, far)
    alive = mark(live(untied(heap, near, far)))
    return tuple([one for one in live(heap) if one not in alive])


def grips(heap, place):
    """The set of the ties without each of which alone place is dead."""
    heap = frozen(heap)
    check_places((place,), len(heap[1]))
    if place not in live(heap):
        raise Unfit()
    return tuple([(near, far) for near, far in all_ties(heap) if place not in live(untied(heap, near, far))])


def all_ties(heap):
    """The list, ascending, of all ties of a frozen HEAP."""
    return [(near, far) for near, ties in enumerate(tie_table(heap)) for far in ties]


def check_tie(heap, near, far):
    """Raises NoPlace if near or far is not there, Unfit if near is not tied to far."""
    check_places((near, far), len(heap[1]))
    if far not in heap[1][near][1]:
        raise Unfit()


def untied(heap, near, far):
    """A frozen HEAP without this tie."""
    return retied(heap, near, tuple([other for other in heap[1][near][1] if other != far]))


def ahead_masks(heap):
    """For each object of a frozen HEAP the mask of the objects ahead of it."""
    return reach_masks(holder_table(heap))


def all_parts_of(heap):
    """For each object of a frozen HEAP the part that has it."""
    ahead, behind = ahead_masks(heap), reach_masks(tie_table(heap))
    return [places_in(before & after) for before, after in zip(ahead, behind)]


def first_free(left, ahead):
    """The first part of left ahead of which no other one of left is."""
    waiting = mask_of([one for part in left for one in part])
    return [part for part in left if ahead[part[0]] & waiting == mask_of(part)][0]
