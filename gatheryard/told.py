"""RULES told back: which plain RULES fit what was seen of their picks, and what to ask next."""

from gatheryard.basics import frozen, is_number, lots_by_size, mark
from gatheryard.counts import first_in, ordered_with, orders_with
from gatheryard.errors import CanNot, Unfit
from gatheryard.heaps import is_lot, sight
from gatheryard.leastlots import lies_in
from gatheryard.rules import are_all_areas, pick_table, sight_lots
from gatheryard.sweeps import freed


def told_by(m, seen):
    """The set of the pairs (sight, area) that seen shows."""
    pairs = [pair for heap, lot, areas in seen for pair in shown_by(frozen(heap), lot, areas)]
    shown = tuple(sorted(set(pairs)))
    if len(dict(shown)) < len(shown):
        raise CanNot()
    return shown


def fits(told, rule):
    """Whether a plain RULE fits told."""
    picks = pick_table(rule)
    return all([picks[lot] == (area,) for lot, area in frozen(told)])


def orders_told(m, told):
    """The list, ascending, of the orders of the RULES of width 1 that fit told."""
    return orders_with(m, told)


def goods_many(m, told):
    """How many RULES of width 1 fit told."""
    return ordered_with(m, told)


def sure_picks(m, told):
    """The set of the pairs (LOT, area) that all RULES of width 1 have that fit told."""
    orders, picked = orders_told(m, told), dict(frozen(told))
    if orders == []:
        raise CanNot()
    sure = []
    for lot in sight_lots(m):
        firsts = sorted(set([first_in(order, lot) for order in orders]))
        if lot in picked:
            sure.append((lot, picked[lot]))
        elif len(lot) == 2 and len(firsts) == 1:
            # Of more areas each order leaves two or more to pick.
            sure.append((lot, [area for area in lot if area != firsts[0]][0]))
    return tuple(sure)


def bar(m, told):
    """The BAR of told with the fewest areas, of these the least."""
    for lot in lots_by_size(list(range(m))):
        if is_bar(told, lot):
            return lot
    raise CanNot()


def is_bar(told, thing):
    """Whether thing is a BAR of told."""
    told = frozen(told)
    limit = max([area for _, area in told], default=-1) + 1
    if not is_lot(thing, limit) or len(thing) < 2:
        return False
    barred = mark([area for lot, area in told if lies_in(lot, thing)])
    return lies_in(thing, barred)


def asking_heap(m, lot):
    """The HEAP of one object an area of lot, the first one tied from all others."""
    return (m, tuple([(area, () if area == lot[0] else (0,)) for area in lot]), ())


def best_ask(m, told):
    """The LOT to ask for that leaves the fewest RULES of width 1 whatever the answer is; None if one alone fits."""
    many = goods_many(m, told)
    if many == 0:
        raise CanNot()
    if many == 1:
        return None
    picked, orders = dict(frozen(told)), orders_told(m, told)
    ranked = []
    for lot in sight_lots(m):
        if lot not in picked:
            firsts = [first_in(order, lot) for order in orders]
            # With an answer the orders are left that have another area of lot first, each with as many RULES.
            left = len(orders) - min([firsts.count(area) for area in lot])
            ranked.append((left * (many // len(orders) // (len(lot) - 1)), lot))
    return min(ranked)[1]


def shown_by(heap, lot, areas):
    """The list of the pairs (sight, area) of the kept objects that lie in lot; Unfit if areas cannot be behind it."""
    gone, pairs = mark(freed(heap, lot)), []
    if len(areas) != len(heap[1]):
        raise Unfit()
    for one, area in enumerate(areas):
        seen = sight(heap, one)
        inside = heap[1][one][0] in lot
        # What is freed lies nowhere, what lies elsewhere stays.
        free = seen if inside else heap[1][one][:1]
        if (area is None) != (one in gone) or (area is not None and area not in free):
            raise Unfit()
        if inside and area is not None and len(seen) > 1:
            pairs.append((seen, area))
    return pairs


def is_told(thing, m):
    """Whether thing is what may be told of a plain RULE for m areas: a set of pairs, no LOT twice."""
    if not isinstance(thing, tuple) or not all([is_told_pair(pair, m) for pair in thing]):
        return False
    return all([here[0] < there[0] for here, there in zip(thing, thing[1:])])


def is_told_pair(thing, m):
    """Whether thing is a pair of a LOT of two or more of m areas and an area of it."""
    if not isinstance(thing, tuple) or len(thing) != 2 or not is_lot(thing[0], m):
        return False
    return len(thing[0]) > 1 and is_number(thing[1]) and thing[1] in thing[0]


def order_told(m, told):
    """The least order of the RULES of width 1 that fit told, None if none does."""
    order, left = (), list(range(m))
    while left != []:
        barred = [area for lot, area in told if lies_in(lot, left)]
        free = [area for area in left if area not in barred]
        if free == []:
            return None
        # What is told of LOTS that have the first area bars nothing behind it, so any free one may be the first.
        order = order + (free[0],)
        left = [area for area in left if area != free[0]]
    return order


def is_order_told(m, told, thing):
    """Whether thing is the order of a RULE of width 1 that fits told."""
    if not isinstance(thing, tuple) or not are_all_areas(thing, m):
        return False
    return all([first_in(thing, lot) != area for lot, area in told])
