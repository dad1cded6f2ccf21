"""Plain ways to what the document defines, by trying all, for the tests to compare with."""

from itertools import permutations, product

from tests.makers import lots, subsets


def members(heap):
    """The numbers of the objects."""
    return range(len(heap[1]))


def tied(heap, near, far):
    """Whether near is tied to far."""
    return far in heap[1][near][1]


def come_to_from(heap, starts):
    """The Python set of what is come to, grown till nothing more comes."""
    found = set(starts)
    while True:
        more = found | {far for near in found for far in heap[1][near][1]}
        if more == found:
            return found
        found = more


def alive(heap):
    return come_to_from(heap, heap[2])


def lifeless(heap):
    return set(members(heap)) - alive(heap)


def all_ahead(heap, one):
    return {near for near in members(heap) if one in come_to_from(heap, [near])}


def as_set(found):
    return tuple(sorted(found))


def areas(heap, some):
    return as_set({heap[1][one][0] for one in some})


def without(heap, near, far):
    """The HEAP without this tie."""
    objects = [(area, tuple([own for own in ties if (one, own) != (near, far)]))
               for one, (area, ties) in enumerate(heap[1])]
    return (heap[0], tuple(objects), heap[2])


def all_parts(heap):
    """All sets each of which is come to from each and that lie within no greater such one, ascending."""
    reach = {one: come_to_from(heap, [one]) for one in members(heap)}
    close = [set(own) for own in subsets(members(heap)) if own and all(set(own) <= reach[one] for one in own)]
    return sorted(as_set(own) for own in close if not any(own < other for other in close))


def all_dead_parts(heap):
    gone = lifeless(heap)
    return [part for part in all_parts(heap) if part[0] in gone]


def inside(heap, lot):
    return {one for one in members(heap) if heap[1][one][0] in lot}


def entered(heap, lot):
    """The entries of lot."""
    there = inside(heap, lot)
    return {one for one in there
            if one in heap[2] or any(tied(heap, near, one) for near in set(members(heap)) - there)}


def kept_from(heap, lot, starts):
    """What is come to from starts by ties between objects in lot alone."""
    there = inside(heap, lot)
    found = set(starts)
    while True:
        more = found | {far for near in found for far in heap[1][near][1] if far in there}
        if more == found:
            return found
        found = more


def kept_in(heap, lot):
    return kept_from(heap, lot, entered(heap, lot))


def freed_in(heap, lot):
    return inside(heap, lot) - kept_in(heap, lot)


def row_of_freed(heap, row):
    """What each LOT of row frees, by the numbers ahead of it all, with the objects struck out one by one."""
    left, found = set(members(heap)), []
    for lot in row:
        there = {one for one in left if heap[1][one][0] in lot}
        keep = {one for one in there if one in heap[2] or any(tied(heap, near, one) for near in left - there)}
        while True:
            more = keep | {far for near in keep for far in heap[1][near][1] if far in there}
            if more == keep:
                break
            keep = more
        found.append(as_set(there - keep))
        left -= there - keep
    return found


def is_freed_by(heap, row, goal):
    return set(goal) <= {one for own in row_of_freed(heap, row) for one in own}


def rows_of(m, many, length):
    """All ROWS of so many LOTS of just many areas, ascending."""
    return product(sorted(lot for lot in lots(m) if len(lot) == many), repeat=length)


def all_names(m):
    return list(permutations(range(m)))


def rule_renamed(rule, names):
    return tuple(sorted((as_set({names[area] for area in lot}), as_set({names[area] for area in picks}))
                        for lot, picks in rule))


def plain_rules_within(rule):
    """All plain RULES within rule, ascending."""
    return sorted(tuple((lot, (area,)) for (lot, _), area in zip(rule, areas_picked))
                  for areas_picked in product(*[picks for _, picks in rule]))
