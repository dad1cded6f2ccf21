"""Plain ways to what the document defines, by trying all, for the tests to compare with."""

from itertools import permutations, product

from tests.makers import lots, subsets


def members(heap):
    """The numbers of the objects."""
    return range(len(heap[1]))


def tied(heap, near, far):
    """Whether near is tied to far."""
    return far in heap[1][near][1]


def come_to_from(heap, starts):
    """The Python set of what is come to, grown till nothing more comes."""
    found = set(starts)
    while True:
        more = found | {far for near in found for far in heap[1][near][1]}
        if more == found:
            return found
        found = more


def alive(heap):
    return come_to_from(heap, heap[2])


def lifeless(heap):
    return set(members(heap)) - alive(heap)


def all_ahead(heap, one):
    return {near for near in members(heap) if one in come_to_from(heap, [near])}


def as_set(found):
    return tuple(sorted(found))


def areas(heap, some):
    return as_set({heap[1][one][0] for one in some})


def without(heap, near, far):
    """The HEAP without this tie."""
    objects = [(area, tuple([own for own in ties if (one, own) != (near, far)]))
               for one, (area, ties) in enumerate(heap[1])]
    return (heap[0], tuple(objects), heap[2])


def all_parts(heap):
    """All sets each of which is come to from each and that lie within no greater such one, ascending."""
    reach = {one: come_to_from(heap, [one]) for one in members(heap)}
    close = [set(own) for own in subsets(members(heap)) if own and all(set(own) <= reach[one] for one in own)]
    return sorted(as_set(own) for own in close if not any(own < other for other in close))


def all_dead_parts(heap):
    gone = lifeless(heap)
    return [part for part in all_parts(heap) if part[0] in gone]


def inside(heap, lot):
    return {one for one in members(heap) if heap[1][one][0] in lot}


def entered(heap, lot):
    """The entries of lot."""
    there = inside(heap, lot)
    return {one for one in there
            if one in heap[2] or any(tied(heap, near, one) for near in set(members(heap)) - there)}


def kept_from(heap, lot, starts):
    """What is come to from starts by ties between objects in lot alone."""
    there = inside(heap, lot)
    found = set(starts)
    while True:
        more = found | {far for near in found for far in heap[1][near][1] if far in there}
        if more == found:
            return found
        found = more


def kept_in(heap, lot):
    return kept_from(heap, lot, entered(heap, lot))


def freed_in(heap, lot):
    return inside(heap, lot) - kept_in(heap, lot)


def row_of_freed(heap, row):
    """What each LOT of row frees, by the numbers ahead of it all, with the objects struck out one by one."""
    left, found = set(members(heap)), []
    for lot in row:
        there = {one for one in left if heap[1][one][0] in lot}
        keep = {one for one in there if one in heap[2] or any(tied(heap, near, one) for near in left - there)}
        while True:
            more = keep | {far for near in keep for far in heap[1][near][1] if far in there}
            if more == keep:
                break
            keep = more
        found.append(as_set(there - keep))
        left -= there - keep
    return found


def is_freed_by(heap, row, goal):
    return set(goal) <= {one for own in row_of_freed(heap, row) for one in own}


def rows_of(m, many, length):
    """All ROWS of so many LOTS of just many areas, ascending."""
    return product(sorted(lot for lot in lots(m) if len(lot) == many), repeat=length)


def all_names(m):
    return list(permutations(range(m)))


def rule_renamed(rule, names):
    return tuple(sorted((as_set({names[area] for area in lot}), as_set({names[area] for area in picks}))
                        for lot, picks in rule))


def plain_rules_within(rule):
    """All plain RULES within rule, ascending."""
    return sorted(tuple((lot, (area,)) for (lot, _), area in zip(rule, areas_picked))
                  for areas_picked in product(*[picks for _, picks in rule]))


def within_lot(lot):
    """All LOTS of areas of lot, fewest areas first, then ascending."""
    return [own for own in subsets(lot) if own]


def picks_at(rule, lot):
    return lot if len(lot) == 1 else dict(rule)[lot]


def leads_within(rule, lot):
    """The Python set of the pairs (one, other) such that one leads to other, by all LOTS."""
    return {(one, other) for own in within_lot(lot) for one in own for other in picks_at(rule, own) if one != other}


def reached_by(pairs, area):
    """The Python set of the areas that are reached from area by these pairs."""
    found = {area}
    while True:
        more = found | {other for one, other in pairs if one in found}
        if more == found:
            return found
        found = more


def each_from_each(pairs, lot):
    return all(reached_by(pairs, area) >= set(lot) for area in lot)


def is_woven_plainly(rule, lot):
    return len(lot) > 1 and each_from_each(leads_within(rule, lot), lot)


def all_closed_in(rule, lot):
    """All LOTS that are closed in within lot, by trying all."""
    pairs = leads_within(rule, lot)
    return [inner for inner in within_lot(lot)
            if not any(one not in inner and other in inner for one, other in pairs)]


def chain_within(rule, lot):
    """The CHAIN, by taking away the first LOT again and again."""
    if lot == ():
        return ()
    first = all_closed_in(rule, lot)[0]
    return (first,) + chain_within(rule, tuple([area for area in lot if area not in first]))


def chain_plainly(rule, m):
    return chain_within(rule, tuple(range(m)))


def offends(row, lot, picks):
    """Whether lot lies in none of row and has one of its picks in the first of them in which it has an area."""
    if any(set(lot) <= set(own) for own in row):
        return False
    first = [own for own in row if set(own) & set(lot)][0]
    return bool(set(first) & set(picks))


def partings(lot):
    """All rows of LOTS such that each area of lot lies in just one of them."""
    if lot == ():
        return [()]
    return [(first,) + row for first in within_lot(lot)
            for row in partings(tuple([area for area in lot if area not in first]))]


def weaves(rule, lot):
    """All WEAVES of lot, by trying all."""
    choices = [[own for own in within_lot(lot) if len(own) > 1 and area in picks_at(rule, own)] for area in lot]
    return [weave for weave in product(*choices) if is_weave_plainly(lot, weave)]


def is_weave_plainly(lot, weave):
    """Whether these LOTS, each of which may pick its area, make each area reached from each."""
    pairs = {(one, area) for area, own in zip(lot, weave) for one in own if one != area}
    return each_from_each(pairs, lot)


def missed_by(rule, m, course):
    """All LOTS that are missed, fewest areas first, then ascending."""
    return [lot for lot in lots(m) if (len(lot) == 1 or is_woven_plainly(rule, lot))
            and not any(set(lot) <= set(own) for own in course)]


def sight_of(heap, one):
    return areas(heap, [one] + [near for near in members(heap) if tied(heap, near, one)])


def stays(rule, heap, one):
    """Whether one may stay."""
    return heap[1][one][0] in picks_at(rule, sight_of(heap, one))


def foremost_parts(heap):
    """All dead parts ahead of which no dead object outside of them is."""
    gone = lifeless(heap)
    return [part for part in all_dead_parts(heap)
            if not any(near in gone and near not in part for near in all_ahead(heap, part[0]))]


def is_wide(rule, m):
    """The width, by the plain CHAIN."""
    return max(len(lot) for lot in chain_plainly(rule, m))


def unlike(rule, other):
    """In how many LOTS two RULES have unlike picks."""
    return sum(own != theirs for own, theirs in zip(rule, other))


def with_picks(rule, lot, picks):
    """The RULE that has these picks of lot."""
    return tuple([(own, picks if own == lot else theirs) for own, theirs in rule])


def may_lie_in(heap, rule, lot):
    """For each object the areas in which it may lie behind a sweep of lot, () if that frees it."""
    gone, there = freed_in(heap, lot), inside(heap, lot)
    found = []
    for one in members(heap):
        if one in gone:
            found.append(())
        else:
            found.append(picks_at(rule, sight_of(heap, one)) if one in there else (heap[1][one][0],))
    return found


def left_at(stand):
    """The objects that are not freed at a STAND."""
    return [one for one, area in enumerate(stand) if area is not None]


def heap_of_stand(heap, stand):
    """The HEAP of the objects that are not freed, numbered anew."""
    left = left_at(stand)
    objects = tuple([(stand[one], tuple([left.index(far) for far in heap[1][one][1] if far in left])) for one in left])
    return (heap[0], objects, tuple([left.index(root) for root in heap[2]]))


def choices_at(heap, rule, stand, lot):
    """For each object the places that it may have at the STANDS behind a sweep of lot."""
    moves = dict(zip(left_at(stand), may_lie_in(heap_of_stand(heap, stand), rule, lot)))
    return [moves.get(one) or (None,) for one in members(heap)]


def next_stand(heap, rule, stand, lot):
    """The STAND behind a sweep of lot by a plain RULE."""
    return tuple([places[0] for places in choices_at(heap, rule, stand, lot)])


def where_all_lie(heap):
    return tuple([area for area, _ in heap[1]])


def play(heap, rule, row):
    """The STANDS behind 0, 1, .. of row by a plain RULE."""
    stands = [where_all_lie(heap)]
    for lot in row:
        stands.append(next_stand(heap, rule, stands[-1], lot))
    return stands


def frees_all_plainly(rule, m, course):
    """Whether no LOT of one area and no woven LOT is missed."""
    return missed_by(rule, m, course) == []


def own_sweep(heap, rule, lot):
    """The HEAP behind a sweep of lot by a plain OWN RULE, object by object."""
    gone = freed_in(heap, lot)
    picks = {(sight, own): picked for sight, own, picked in rule}
    stand = []
    for one in members(heap):
        area, sight = heap[1][one][0], sight_of(heap, one)
        if one in gone:
            stand.append(None)
        else:
            stand.append(picks[sight, area][0] if area in lot and len(sight) > 1 else area)
    return heap_of_stand(heap, tuple(stand))


def own_play(heap, rule, row):
    """The HEAPS behind 0, 1, .. sweeps of row by a plain OWN RULE."""
    heaps = [heap]
    for lot in row:
        heaps.append(own_sweep(heaps[-1], rule, lot))
    return heaps


def older(heap, age):
    """The STAND behind a small sweep to age."""
    young = tuple(range(age + 1))
    gone = freed_in(heap, young)
    return tuple([None if one in gone else min(area + 1, heap[0] - 1) if area in young else area
                  for one, (area, _) in enumerate(heap[1])])


def worth_plainly(heap, tariff, some):
    """What a sweep of some is worth, counted object by object."""
    gain, price, fee = tariff
    gone = freed_in(heap, some)
    return sum([gain if one in gone else -price for one in inside(heap, some)]) - fee * len(some)


def order_of_chain(rule, m):
    """The areas of the plain CHAIN, one behind the other."""
    return tuple([area for lot in chain_plainly(rule, m) for area in lot])
