"""Least LOTS: which areas must be swept at once to free what is dead."""

from gatheryard.basics import check_places, frozen, mark
from gatheryard.errors import CanNot
from gatheryard.heaps import ahead_of, areas_of, dead


def need_of(heap, one):
    """The LOT of the areas of all that is ahead of a dead object."""
    check_places((one,), len(heap[1]))
    need = needs(heap)[one]
    if need is None:
        raise CanNot()
    return need


def needs(heap):
    """For each object its need, None for the live ones."""
    heap = frozen(heap)
    gone = mark(dead(heap))
    return tuple([areas_of(heap, ahead_of(heap, one)) if one in gone else None for one in range(len(heap[1]))])


def lot_for(heap, some):
    """The least LOT that frees all of some."""
    check_places(some, len(heap[1]))
    all_needs = needs(heap)
    wanted = [all_needs[one] for one in some]
    if None in wanted:
        raise CanNot()
    return joined(wanted)


def freed_too(heap, one):
    """The set of the objects that each LOT frees that frees one."""
    return freed_by(needs(heap), need_of(heap, one))


def tight_lots(heap):
    """The list, ascending, of all tight LOTS."""
    found = {}
    for need in single_needs(heap):
        for lot in list(found):
            found[joined([lot, need])] = True
        found[need] = True
    return sorted(found)


def tight_within(heap, lot):
    """The tight LOT within lot within which all others lie, () if lot frees nothing."""
    check_places(lot, heap[0])
    return joined([need for need in single_needs(heap) if lies_in(need, lot)])


def narrowest(heap):
    """The list, ascending, of the LOTS of fewest areas that free some object."""
    found = single_needs(heap)
    fewest = min([len(need) for need in found], default=0)
    return [need for need in found if len(need) == fewest]


def beyond(heap, many):
    """The set of the dead objects that no LOT of at most many areas frees."""
    return tuple([one for one, need in enumerate(needs(heap)) if need is not None and len(need) > many])


def most_freed(heap, many):
    """How many objects a LOT of at most many areas frees at most, and the first LOT that does."""
    all_needs = needs(heap)
    # The LOT with the fewest areas of those that free the same is tight, so no others need to be looked at.
    lots = [lot for lot in tight_lots(heap) if len(lot) <= many]
    ranked = [(-len(freed_by(all_needs, lot)), len(lot), lot) for lot in lots]
    if ranked == []:
        return (0, ())
    most, _, areas = min(ranked)
    return (-most, areas)


def single_needs(heap):
    """The list, ascending, of the unlike needs of all dead objects."""
    return sorted(set([need for need in needs(heap) if need is not None]))


def joined(lots):
    """The set of all areas of lots."""
    return tuple(sorted(set([area for lot in lots for area in lot])))


def lies_in(lot, other):
    """Whether all areas of lot are areas of other."""
    return all([area in other for area in lot])


def lies_in_some(lot, row):
    """Whether some LOT of row has all areas of lot."""
    return any([lies_in(lot, own) for own in row])


def freed_by(all_needs, lot):
    """The set of the objects whose need lies within lot."""
    return tuple([one for one, need in enumerate(all_needs) if need is not None and lies_in(need, lot)])
