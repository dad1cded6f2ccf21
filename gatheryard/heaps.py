"""HEAPS: objects with ties that lie in areas, and what is live or dead there."""

from gatheryard.basics import check_places, frozen, is_number, is_set, least_walk, mark, spread, turned
from gatheryard.errors import CanNot, Unfit


def is_lot(thing, m):
    """Whether thing is a LOT of the m areas."""
    return is_set(thing, m) and thing != ()


def is_heap(thing):
    """Whether thing is a HEAP."""
    if not isinstance(thing, tuple) or len(thing) != 3:
        return False
    m, objects, roots = thing
    if not is_number(m) or m < 1 or not isinstance(objects, tuple):
        return False
    many = len(objects)
    return all([is_object(pair, m, many) for pair in objects]) and is_set(roots, many)


def is_object(thing, m, many):
    """Whether thing is what a HEAP of m areas tells of one of its many objects."""
    if not isinstance(thing, tuple) or len(thing) != 2:
        return False
    area, ties = thing
    return is_number(area) and 0 <= area < m and is_set(ties, many)


def come_to(heap, starts):
    """The set of the objects that are come to from starts."""
    heap, starts = frozen(heap), frozen(starts)
    check_places(starts, len(heap[1]))
    return spread(tie_table(heap), starts)


def live(heap):
    """The set of the live objects."""
    return come_to(heap, heap[2])


def dead(heap):
    """The set of the dead objects."""
    alive = mark(live(heap))
    return tuple([one for one in range(len(heap[1])) if one not in alive])


def ahead_of(heap, one):
    """The set of the objects ahead of one."""
    heap = frozen(heap)
    check_places((one,), len(heap[1]))
    return spread(holder_table(heap), (one,))


def holders(heap, one):
    """The set of the objects that are tied to one."""
    heap = frozen(heap)
    check_places((one,), len(heap[1]))
    return tuple(holder_table(heap)[one])


def sight(heap, one):
    """The LOT of the area of one and the areas of its holders."""
    heap = frozen(heap)
    return areas_of(heap, holders(heap, one) + (one,))


def areas_of(heap, some):
    """The set of the areas in which some lie."""
    heap, some = frozen(heap), frozen(some)
    check_places(some, len(heap[1]))
    return tuple(sorted(set([heap[1][one][0] for one in some])))


def way(heap, starts, one):
    """Of the ways from starts to one with the fewest objects the least."""
    heap, starts = frozen(heap), frozen(starts)
    check_places(starts + (one,), len(heap[1]))
    found = least_walk(tie_table(heap), starts, one)
    if found == ():
        raise CanNot()
    return found


def is_way(heap, starts, one, thing):
    """Whether thing is a way from starts to one."""
    heap, starts = frozen(heap), frozen(starts)
    check_places(starts + (one,), len(heap[1]))
    if not is_walk(heap, thing):
        return False
    return thing[0] in starts and thing[-1] == one


def is_walk(heap, thing):
    """Whether thing is a tuple, not (), of objects of heap, each one tied to the next."""
    if not isinstance(thing, tuple) or thing == ():
        return False
    many = len(heap[1])
    if not all([is_number(one) and 0 <= one < many for one in thing]):
        return False
    return all([far in heap[1][near][1] for near, far in zip(thing, thing[1:])])


def cut_to(heap, some):
    """The HEAP of some alone, with those roots that are among them."""
    heap, some = frozen(heap), frozen(some)
    check_places(some, len(heap[1]))
    return cut_with(heap, some, heap[2])


def dead_heap(heap):
    """The HEAP of the dead objects alone."""
    return cut_to(heap, dead(heap))


def relaid(heap, areas):
    """The HEAP in which each object lies in the area that areas has at its place."""
    heap, areas = frozen(heap), frozen(areas)
    m, objects, roots = heap
    if len(areas) != len(objects) or not all([is_number(area) and 0 <= area < m for area in areas]):
        raise Unfit()
    return (m, tuple([(area, ties) for area, (_, ties) in zip(areas, objects)]), roots)


def tie_table(heap):
    """For each object of a frozen HEAP the objects to which it is tied."""
    return [ties for _, ties in heap[1]]


def holder_table(heap):
    """For each object of a frozen HEAP its holders, ascending."""
    return turned(tie_table(heap))


def cut_with(heap, some, roots):
    """The HEAP of some of the objects of a frozen HEAP, with those of roots that are among them."""
    number = {one: place for place, one in enumerate(some)}
    objects = []
    for one in some:
        area, ties = heap[1][one]
        objects.append((area, tuple([number[far] for far in ties if far in number])))
    return (heap[0], tuple(objects), tuple([number[root] for root in roots if root in number]))


def retied(heap, near, ties):
    """A frozen HEAP, but near is tied to ties."""
    m, objects, roots = heap
    return (m, objects[:near] + ((objects[near][0], ties),) + objects[near + 1:], roots)
