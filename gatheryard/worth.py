"""What sweeps of LOTS are worth by a TARIFF, and DEALINGS that show that none is worth more."""

from gatheryard.basics import frozen, is_number, least_walk, lots_within, mask_of, places_in, taken_off
from gatheryard.errors import CanNot
from gatheryard.leastlots import needs
from gatheryard.rows import area_masks, dead_aheads, freed_by_row, freed_now, lot_mask


def is_tariff(thing):
    """Whether thing is a TARIFF."""
    return isinstance(thing, tuple) and len(thing) == 3 and all([is_number(own) and own >= 0 for own in thing])


def worth(heap, tariff, some):
    """What the sweep of some is worth."""
    heap = frozen(heap)
    return worth_of(tariff, tally_of(dead_aheads(heap), area_masks(heap), 0, some))


def best_worth(heap, tariff):
    """The greatest worth of all sets of areas."""
    return max([worth_of(tariff, tally) for tally in tallies(heap, 0)])


def inner_best(heap, tariff):
    """The best set of areas that lies within all best ones."""
    best = best_sets(tariff, tallies(heap, 0))
    return tuple([area for area in range(heap[0]) if all([area in some for some in best])])


def outer_best(heap, tariff):
    """The best set of areas within which all best ones lie."""
    return outer_of(tariff, tallies(heap, 0))


def dealing(heap, tariff):
    """A DEALING that leaves just what the best sets are worth."""
    wanted = dead_needs(heap)
    # At first all shares go to the first area of the need. Then they are dealt on, by ways as short as can be, from
    # areas above their cost to areas below it. When no such way is left, all that leads on from areas above is full,
    # and what is wanted there alone makes a best set.
    shares = [{area: 0 for area in need} for need in wanted]
    for own, need in zip(shares, wanted):
        own[need[0]] = tariff[0] + tariff[1]
    over = above_costs(heap, tariff, shares)
    walk = walk_down(shares, over)
    while walk != ():
        deal_on(shares, over, walk)
        walk = walk_down(shares, over)
    return tuple([tuple([own[area] for area in need]) for own, need in zip(shares, wanted)])


def is_dealing(heap, tariff, thing):
    """Whether thing is a DEALING."""
    wanted = dead_needs(heap)
    if not isinstance(thing, tuple) or len(thing) != len(wanted):
        return False
    return all([is_deal(own, len(need), tariff[0] + tariff[1]) for own, need in zip(thing, wanted)])


def left_by(heap, tariff, dealing):
    """What a DEALING leaves."""
    shares = [dict(zip(need, own)) for need, own in zip(dead_needs(heap), dealing)]
    return sum([max(0, many) for many in above_costs(heap, tariff, shares)])


def fee_steps(heap, gain, price):
    """The list of the pairs (fee, outer best set): 0, and each fee at which this set is another than just below."""
    found = tallies(heap, 0)
    fee, best = 0, outer_of((gain, price, 0), found)
    steps = [(fee, best)]
    while best != ():
        fee = next_fee((gain, price, 0), found, best)
        best = outer_of((gain, price, fee), found)
        steps.append((fee, best))
    return steps


def best_lot(heap, tariff, many):
    """The greatest worth of a LOT of at most many areas, and the least such LOT."""
    ranked = [(-worth_of(tariff, tally), tally[0]) for tally in tallies(heap, 0)[1:] if len(tally[0]) <= many]
    less, lot = min(ranked)
    return (-less, lot)


def most_for(heap, kept):
    """How many objects a LOT of which at most so many are kept frees at most, and the least such LOT."""
    ranked = [(-gone, lot) for lot, gone, left in tallies(heap, 0)[1:] if left <= kept]
    if ranked == []:
        raise CanNot()
    less, lot = min(ranked)
    return (-less, lot)


def best_next(heap, tariff, row):
    """The least LOT of those that are worth most behind row, None if none is worth more than 0."""
    gone = mask_of([one for own in freed_by_row(heap, row) for one in own])
    less, lot = min([(-worth_of(tariff, tally), tally[0]) for tally in tallies(heap, gone)])
    return lot if less < 0 else None


def best_row(heap, tariff):
    """The ROW that takes the best next LOT as long as there is one."""
    row = ()
    lot = best_next(heap, tariff, row)
    while lot is not None:
        row = row + (lot,)
        lot = best_next(heap, tariff, row)
    return row


def tallies(heap, gone):
    """The tallies of (), then of each LOT, ascending, when the objects of the mask gone are freed."""
    heap = frozen(heap)
    ahead, inner = dead_aheads(heap), area_masks(heap)
    return [tally_of(ahead, inner, gone, some) for some in [()] + lots_within(list(range(heap[0])))]


def tally_of(ahead, inner, gone, some):
    """The triple of some, how many objects a sweep of them frees, and how many it keeps."""
    inside = taken_off(lot_mask(inner, some), gone)
    fresh = freed_now(ahead, gone, inside)
    return (some, len(places_in(fresh)), len(places_in(inside - fresh)))


def worth_of(tariff, tally):
    """What a sweep is worth of which tally tells the areas, how many objects it frees, how many it keeps."""
    gain, price, fee = tariff
    some, gone, left = tally
    return gain * gone - price * left - fee * len(some)


def best_sets(tariff, found):
    """The list of the sets of areas of the tallies found that are worth most."""
    most = max([worth_of(tariff, tally) for tally in found])
    return [tally[0] for tally in found if worth_of(tariff, tally) == most]


def outer_of(tariff, found):
    """The best set of the tallies found within which all best ones lie."""
    return tuple(sorted(set([area for some in best_sets(tariff, found) for area in some])))


def next_fee(tariff, found, best):
    """The least fee at which some set of fewer areas than best is worth more, tariff having the fee 0."""
    most = [worth_of(tariff, tally) for tally in found if tally[0] == best][0]
    lesser = [tally for tally in found if len(tally[0]) < len(best)]
    return min([(most - worth_of(tariff, tally)) // (len(best) - len(tally[0])) + 1 for tally in lesser])


def dead_needs(heap):
    """The list of the needs of the dead objects, in order."""
    return [need for need in needs(heap) if need is not None]


def above_costs(heap, tariff, shares):
    """For each area how much its shares are above its cost, below 0 if they are below."""
    over = [-tariff[2] for _ in range(heap[0])]
    for area, _ in heap[1]:
        over[area] -= tariff[1]
    for own in shares:
        for area, many in own.items():
            over[area] += many
    return over


def is_deal(thing, many, whole):
    """Whether thing is a tuple of so many shares that come to whole."""
    if not isinstance(thing, tuple) or len(thing) != many or not all([is_number(share) for share in thing]):
        return False
    return min(thing) >= 0 and sum(thing) == whole


def walk_down(shares, over):
    """A shortest walk by which shares can be dealt on from an area above its cost to one below it, () without."""
    table = [[] for _ in over]
    for own in shares:
        for area in own:
            if own[area] > 0:
                table[area].extend([other for other in own if other != area])
    fuller = [area for area, many in enumerate(over) if many > 0]
    walks = [least_walk(table, fuller, area) for area, many in enumerate(over) if many < 0]
    return min([walk for walk in walks if walk != ()], key=len, default=())


def deal_on(shares, over, walk):
    """Deals along walk as much as can be, in shares and in over."""
    steps = list(zip(walk, walk[1:]))
    dealt = [[own for own in shares if own.get(near, 0) > 0 and far in own][0] for near, far in steps]
    many = min([over[walk[0]], -over[walk[-1]]] + [own[near] for own, (near, _) in zip(dealt, steps)])
    for own, (near, far) in zip(dealt, steps):
        own[near] -= many
        own[far] += many
    over[walk[0]] -= many
    over[walk[-1]] += many
