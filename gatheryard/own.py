"""OWN RULES: to which area a sweep moves what it keeps, by its sight and by the area in which it lies."""

from gatheryard.basics import frozen, is_number, mask_of
from gatheryard.errors import TooMuch, Unfit
from gatheryard.heaps import dead_heap, is_heap
from gatheryard.moves import first_stand, heap_at, stand_behind, stands_along, yard_with
from gatheryard.rounds import is_course
from gatheryard.rules import is_pair_of, sight_lots
from gatheryard.schedules import frees_all

# How many times a row is swept at most till a HEAP comes again.
MOST_LAPS = 400


def is_own_rule(thing, m):
    """Whether thing is an OWN RULE for m areas."""
    # An OWN RULE for m areas has m - 1 triples at least, so an m beyond this needs not be counted out.
    if not isinstance(thing, tuple) or not 1 <= m <= len(thing) + 1 or len(thing) != triples_many(m):
        return False
    return all([is_triple_of(triple, lot, own) for triple, (lot, own) in zip(thing, own_sights(m))])


def own_rule(m, word):
    """The plain OWN RULE for m areas with the picks of this word."""
    if word not in WORDS:
        raise Unfit()
    pick = WORDS[word]
    return tuple([(lot, own, (pick(lot, own),)) for lot, own in own_sights(m)])


def widened(rule):
    """The wide RULE of rule."""
    picked = {}
    for lot, _, picks in frozen(rule):
        picked[lot] = picked.get(lot, ()) + picks
    return tuple([(lot, tuple(sorted(set(picks)))) for lot, picks in picked.items()])


def as_own(rule):
    """The OWN RULE that picks as rule does, whatever the own area is."""
    return tuple([(lot, own, picks) for lot, picks in frozen(rule) for own in lot])


def surely_frees(m, rule, lots):
    """Whether each of the m areas and each woven LOT of the wide RULE lies in one of lots."""
    return frees_all(widened(rule), lots)


def own_swept(heap, rule, lot):
    """The HEAP behind a sweep of lot."""
    return own_run(heap, rule, (lot,))[1]


def own_run(heap, rule, row):
    """The list of the HEAPS behind 0, 1, .. sweeps of row."""
    check_plain_own(rule)
    stands = stands_along(own_yard(heap, rule), first_stand(heap), row)
    return [heap_at(heap, stand) for stand in stands]


def is_turn(m, rule, thing):
    """Whether thing is a TURN of rule."""
    if not is_own_rule(frozen(rule), m) or not is_plain_own(rule) or not isinstance(thing, tuple) or len(thing) != 2:
        return False
    heap, row = thing
    if not is_heap(heap) or heap[0] != m or heap[1] == () or heap[2] != () or not is_course(row, m):
        return False
    # What is freed once never lies anywhere again, so a STAND that comes again has freed nothing.
    return stands_along(own_yard(heap, rule), first_stand(heap), row)[-1] == first_stand(heap)


def comes_back(heap, rule, row):
    """The pair of the least laps of row and length of a round that lead the dead to one HEAP; None if all are freed."""
    check_plain_own(rule)
    heap = dead_heap(heap)
    yard, stand, seen = own_yard(heap, rule), first_stand(heap), {}
    for laps in range(MOST_LAPS + 1):
        if all([area is None for area in stand]):
            return None
        if stand in seen:
            return (seen[stand], laps - seen[stand])
        seen[stand] = laps
        for lot in row:
            stand = stand_behind(yard, stand, lot)
    raise TooMuch()


def own_pick(lot, own):
    """The pick of the word own."""
    return own


def other_pick(lot, own):
    """The pick of the word other."""
    return lot[0] if lot[0] != own else lot[1]


def greatest_own_pick(lot, own):
    """The pick of the word greatest."""
    return lot[-1]


def next_pick(lot, own):
    """The pick of the word next."""
    return min([area for area in lot if area > own], default=lot[0])


# What each word picks of a LOT for an object that lies in an area of it.
WORDS = {"own": own_pick, "other": other_pick, "greatest": greatest_own_pick, "next": next_pick}


def own_sights(m):
    """The list, ascending, of the pairs of a LOT of two or more of m areas and an area of it."""
    return [(lot, own) for lot in sight_lots(m) for own in lot]


def triples_many(m):
    """How many triples an OWN RULE for m areas, from 1, has."""
    return m * ((1 << (m - 1)) - 1)


def is_triple_of(thing, lot, own):
    """Whether thing is a triple of this LOT, this area of it, and picks within it."""
    if not isinstance(thing, tuple) or len(thing) != 3 or not is_number(thing[1]):
        return False
    return thing[1] == own and is_pair_of((thing[0], thing[2]), lot)


def is_plain_own(rule):
    """Whether an OWN RULE has single picks alone."""
    return all([len(picks) == 1 for _, _, picks in rule])


def check_plain_own(rule):
    """Raises Unfit if an OWN RULE is not plain."""
    if not is_plain_own(rule):
        raise Unfit()


def own_yard(heap, rule):
    """What sweeps of heap by an OWN RULE go by."""
    heap = frozen(heap)
    picks = [list(range(1 << heap[0])) for _ in range(heap[0])]
    for lot, own, picked in rule:
        picks[own][mask_of(lot)] = mask_of(picked)
    return yard_with(heap, picks)
