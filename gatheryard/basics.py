"""Small tools that the other files share."""

from gatheryard.errors import NoPlace


def is_number(thing):
    """Whether thing is an int that is not a bool."""
    return isinstance(thing, int) and not isinstance(thing, bool)


def is_set(thing, limit):
    """Whether thing is an ascending tuple, maybe (), of numbers from 0 below limit."""
    if not isinstance(thing, tuple):
        return False
    last = -1
    for member in thing:
        if not is_number(member) or not last < member < limit:
            return False
        last = member
    return True


def frozen(value):
    """The value with tuples in the place of lists, at any depth."""
    if isinstance(value, (list, tuple)):
        return tuple([frozen(inner) for inner in value])
    return value


def check_places(places, limit):
    """Raises NoPlace of the first of places that is not from 0 below limit."""
    for place in places:
        if not 0 <= place < limit:
            raise NoPlace(place)


def check_members(places, lot):
    """Raises NoPlace of the first of places that is no area of lot."""
    for place in places:
        if place not in lot:
            raise NoPlace(place)


def mark(some):
    """The dict in which each of some is a key, to look them up in."""
    return {one: True for one in some}


def turned(table):
    """The table that leads back: for each place those whose row in table has it, ascending."""
    back = [[] for _ in table]
    for place, steps in enumerate(table):
        for step in steps:
            back[step].append(place)
    return back


def spread(table, starts):
    """The set of those that are come to from starts, each place leading to those in its row."""
    found = {start: True for start in starts}
    waiting = list(starts)
    while waiting:
        place = waiting.pop()
        for step in table[place]:
            if step not in found:
                found[step] = True
                waiting.append(step)
    return tuple(sorted(found))


def steps_from(table, start):
    """For each place that is come to from start, how many steps lead there at least."""
    steps = {start: 0}
    layer = [start]
    while layer:
        beyond = []
        for place in layer:
            for step in table[place]:
                if step not in steps:
                    steps[step] = steps[place] + 1
                    beyond.append(step)
        layer = beyond
    return steps


def least_walk(table, starts, goal):
    """Of the shortest walks by table from one of starts to goal the least, () without."""
    steps = steps_from(turned(table), goal)
    nearest = [(steps[start], start) for start in starts if start in steps]
    if not nearest:
        return ()
    left, place = min(nearest)
    walk = [place]
    while left > 0:
        left -= 1
        place = min([step for step in table[place] if steps.get(step) == left])
        walk.append(place)
    return tuple(walk)


def mask_of(places):
    """The number whose bits are places."""
    mask = 0
    for place in places:
        mask = mask | (1 << place)
    return mask


def places_in(mask):
    """The set of the places of the bits of mask."""
    return tuple([place for place in range(mask.bit_length()) if (mask >> place) & 1])


def masks_within(mask):
    """The list, ascending, of the masks, not 0, of some of the places of mask."""
    return [own for own in range(1, mask + 1) if own & mask == own]


def taken_off(mask, other):
    """The mask of the places of mask that other has not."""
    return mask - (mask & other)


def reach_masks(table):
    """For each place the mask of what is come to from it by table."""
    masks = [mask_of(steps) | (1 << place) for place, steps in enumerate(table)]
    many = len(masks)
    for middle in range(many):
        for place in range(many):
            if (masks[place] >> middle) & 1:
                masks[place] = masks[place] | masks[middle]
    return masks


def lots_within(areas):
    """The list, ascending, of all LOTS of the told areas, which are ascending."""
    lots = []
    # Behind each LOT come those that begin with it, so each area is put ahead of all LOTS of greater ones.
    for area in reversed(areas):
        lots = [(area,)] + [(area,) + lot for lot in lots] + lots
    return lots


def lots_by_size(areas):
    """All LOTS of the told areas, those of fewest areas first, of as many the least first."""
    return sorted(lots_within(areas), key=lambda lot: (len(lot), lot))


def orders_of(m):
    """The list, ascending, of the tuples of all m areas, each once."""
    orders = [()]
    for _ in range(m):
        orders = [order + (area,) for order in orders for area in range(m) if area not in order]
    return orders
