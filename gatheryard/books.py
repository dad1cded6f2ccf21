"""Books of areas, and the look at a LOT from outside, object by object or by blocks."""

from gatheryard.basics import check_places, frozen, is_number, lots_by_size, mark
from gatheryard.heaps import cut_with, dead, holder_table, live, relaid, tie_table


def book(heap, area):
    """The set of the ties of which the second object lies in area, the first in another one."""
    check_places((area,), heap[0])
    return books(heap)[area]


def books(heap):
    """The tuple of the books of all areas."""
    heap = frozen(heap)
    lies = [pair[0] for pair in heap[1]]
    found = [[] for _ in range(heap[0])]
    for near, ties in enumerate(tie_table(heap)):
        for far in ties:
            if lies[near] != lies[far]:
                found[lies[far]].append((near, far))
    return tuple([tuple(ties) for ties in found])


def entries(heap, lot):
    """The set of the objects in lot that are roots, or tied from an object that lies elsewhere."""
    heap = frozen(heap)
    check_places(lot, heap[0])
    inside, tied_from = mark(objects_in(heap, lot)), holder_table(heap)
    return tuple([one for one in inside if one in heap[2] or any([near not in inside for near in tied_from[one]])])


def look(heap, lot):
    """The look at lot: who lies there, and the HEAP of these alone with the entries as roots."""
    return look_with(frozen(heap), lot, entries(heap, lot))


def same_look(heap, other, lot):
    """Whether heap and other have the same look at lot."""
    return look(heap, lot) == look(other, lot)


def is_blocks(heap, thing):
    """Whether thing is BLOCKS for heap."""
    if not isinstance(thing, tuple) or len(thing) != len(heap[1]):
        return False
    if not all([is_number(block) and block >= 0 for block in thing]):
        return False
    area_of = {}
    for block, pair in zip(thing, heap[1]):
        if area_of.setdefault(block, pair[0]) != pair[0]:
            return False
    return True


def block_entries(heap, lot, blocks):
    """The set of the objects that are roots of the look by blocks."""
    entered = mark([blocks[one] for one in entries(heap, lot)])
    return tuple([one for one in objects_in(heap, lot) if blocks[one] in entered])


def needless(heap, lot, blocks):
    """The set of the objects in lot that are kept needlessly by blocks."""
    names, inner = look(heap, lot)
    by_blocks = look_with(frozen(heap), lot, block_entries(heap, lot, blocks))[1]
    alive = mark(live(by_blocks))
    return tuple([names[place] for place in dead(inner) if place in alive])


def harmful_lot(heap, blocks):
    """Of the LOTS of fewest areas in which something is kept needlessly the least, None without."""
    for lot in lots_by_size(list(range(heap[0]))):
        if needless(heap, lot, blocks) != ():
            return lot
    return None


def stuck_by_blocks(heap, blocks):
    """The set of the dead objects that are live in the look by blocks of each LOT with their area."""
    # A greater LOT has, in each of its LOTS, no more entries than this has itself, so keeps no more there by
    # blocks: who is live in the look at all areas is so in each one. What is dead there is just what is dead.
    return needless(heap, tuple(range(heap[0])), blocks)


def book_moves(heap, areas):
    """What goes from the books and what comes into them when heap is relaid to areas."""
    ahead, behind = entries_of_books(heap), entries_of_books(relaid(heap, areas))
    gone = [entry for entry in ahead if entry not in behind]
    come = [entry for entry in behind if entry not in ahead]
    return tuple(gone), tuple(come)


def entries_of_books(heap):
    """The dict with a key (area, near, far), ascending, for each tie that is in the book of area."""
    return mark([(area, near, far) for area, own in enumerate(books(heap)) for near, far in own])


def objects_in(heap, lot):
    """The list, ascending, of the objects that lie in lot."""
    inside = mark(lot)
    return [one for one, pair in enumerate(heap[1]) if pair[0] in inside]


def look_with(heap, lot, roots):
    """The look at lot of a frozen HEAP with these roots."""
    names = tuple(objects_in(heap, lot))
    return names, cut_with(heap, names, roots)
