"""Sweeps of a LOT: what they free, what they keep, and what shows it."""

from gatheryard.basics import check_places, frozen, is_set, least_walk, mark
from gatheryard.books import look, objects_in
from gatheryard.errors import CanNot, Unfit
from gatheryard.heaps import ahead_of, cut_to, dead, holders, is_walk, live, tie_table


def kept(heap, lot):
    """The set of the objects in lot that a sweep of it keeps."""
    names, inner = look(heap, lot)
    return tuple([names[place] for place in live(inner)])


def freed(heap, lot):
    """The set of the objects in lot that a sweep of it frees."""
    names, inner = look(heap, lot)
    return tuple([names[place] for place in dead(inner)])


def kept_dead(heap, lot):
    """The set of the dead objects in lot that a sweep of it keeps."""
    gone = mark(dead(heap))
    return tuple([one for one in kept(heap, lot) if one in gone])


def hold_of(heap, lot, one):
    """Of the shortest HOLDS of one the least."""
    heap = frozen(heap)
    check_inside(heap, lot, one)
    inside = mark(objects_in(heap, lot))
    # All objects of a HOLD but the first lie in lot, so other ties lead nowhere here.
    table = [[far for far in ties if far in inside] for ties in tie_table(heap)]
    starts = [start for start in range(len(table)) if start not in inside or start in heap[2]]
    hold = least_walk(table, starts, one)
    if hold == ():
        raise CanNot()
    return hold


def is_hold(heap, lot, one, thing):
    """Whether thing is a HOLD of one."""
    check_inside(heap, lot, one)
    if not is_walk(heap, thing) or len(set(thing)) != len(thing) or thing[-1] != one:
        return False
    inside = mark(objects_in(heap, lot))
    if not all([own in inside for own in thing[1:]]):
        return False
    return thing[0] not in inside or thing[0] in heap[2]


def shut_of(heap, lot, one):
    """The SHUT of one that lies within all others."""
    check_inside(heap, lot, one)
    if one in kept(heap, lot):
        raise CanNot()
    return ahead_of(heap, one)


def is_shut(heap, lot, one, thing):
    """Whether thing is a SHUT of one."""
    check_inside(heap, lot, one)
    if not is_set(thing, len(heap[1])) or one not in thing:
        return False
    inside, members = mark(objects_in(heap, lot)), mark(thing)
    if not all([own in inside and own not in heap[2] for own in thing]):
        return False
    return all([near in members for own in thing for near in holders(heap, own)])


def keepers(heap, lot, one):
    """The set of the objects ahead of one that lie outside of lot or are roots."""
    check_inside(heap, lot, one)
    inside = mark(objects_in(heap, lot))
    return tuple([near for near in ahead_of(heap, one) if near not in inside or near in heap[2]])


def swept(heap, lot):
    """The HEAP behind a sweep of lot, nothing moved."""
    return cut_to(heap, left_by(heap, lot))


def numbers_behind(heap, lot):
    """For each object its number behind a sweep of lot, None for the freed ones."""
    number = {one: place for place, one in enumerate(left_by(heap, lot))}
    return tuple([number.get(one) for one in range(len(heap[1]))])


def left_by(heap, lot):
    """The list, ascending, of the objects that a sweep of lot does not free."""
    gone = mark(freed(heap, lot))
    return [one for one in range(len(heap[1])) if one not in gone]


def check_inside(heap, lot, one):
    """Raises NoPlace for an area of lot or an object that is not there, Unfit if one lies elsewhere."""
    check_places(lot, heap[0])
    check_places((one,), len(heap[1]))
    if heap[1][one][0] not in lot:
        raise Unfit()
