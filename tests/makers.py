"""HEAPS, DEEDS, ROWS, BLOCKS and RULES that the tests make themselves, the same in every run."""

from itertools import chain, combinations, product
from random import Random


def subsets(places):
    """All ascending tuples of places, () too."""
    places = list(places)
    return list(chain.from_iterable([combinations(places, size) for size in range(len(places) + 1)]))


def lots(m):
    """All LOTS of m areas, fewest areas first."""
    return [lot for lot in subsets(range(m)) if lot]


def all_heaps(m, many):
    """All HEAPS of m areas with so many objects."""
    for areas in product(range(m), repeat=many):
        for ties in product(subsets(range(many)), repeat=many):
            for roots in subsets(range(many)):
                yield (m, tuple(zip(areas, ties)), roots)


def random_heap(random, m, many, tied, rooted):
    """A HEAP with about so many ties of a hundred, roots of a hundred."""
    objects = []
    for _ in range(many):
        ties = tuple([far for far in range(many) if random.randrange(100) < tied])
        objects.append((random.randrange(m), ties))
    roots = tuple([one for one in range(many) if random.randrange(100) < rooted])
    return (m, tuple(objects), roots)


def some_heaps(count, most_areas, most_objects, seed):
    """The list of count HEAPS within these bounds, from sparse to thick."""
    random = Random(seed)
    heaps = []
    for _ in range(count):
        m, many = random.randint(1, most_areas), random.randint(0, most_objects)
        tied, rooted = random.choice((8, 15, 25, 40, 70)), random.choice((0, 10, 25, 50))
        heaps.append(random_heap(random, m, many, tied, rooted))
    return heaps


def ring(areas, roots=()):
    """A HEAP of one ring, its objects in these areas."""
    many = len(areas)
    objects = tuple([(area, ((one + 1) % many,)) for one, area in enumerate(areas)])
    return (max(areas) + 1, objects, roots)


def ring_of_rings():
    """Four rings of three over six areas, each tied to the next, the last one to the first."""
    objects = []
    for one in range(12):
        base = one // 3 * 3
        ties = {base + (one + 1) % 3}
        if one == base:
            ties.add((base + 3) % 12)
        objects.append((one % 6, tuple(sorted(ties))))
    return (6, tuple(objects), ())


def full_heap(m, many, roots):
    """A HEAP in which each object is tied to all, itself too."""
    return (m, tuple([(one % m, tuple(range(many))) for one in range(many)]), roots)


def chain_heap(m, many, roots):
    """A HEAP in which each object is tied to all later ones."""
    return (m, tuple([(one % m, tuple(range(one + 1, many))) for one in range(many)]), roots)


def great_heaps():
    """HEAPS at the bounds: 6 areas and 12 objects, of all shapes."""
    loose = (6, tuple([(one % 6, ()) for one in range(12)]), ())
    fixed = [
        loose, ring_of_rings(), ring(tuple([one % 6 for one in range(12)])), full_heap(6, 12, ()),
        full_heap(6, 12, (0, 11)), chain_heap(6, 12, ()), chain_heap(6, 12, (6,)), full_heap(1, 12, ()),
    ]
    random = Random(1212)
    return fixed + [random_heap(random, 6, 12, tied, rooted) for tied in (5, 8, 12, 20) for rooted in (0, 5, 10)]


def small_heaps():
    """All HEAPS of the smallest sizes, and some greater ones, for plain ways that take their time."""
    heaps = [(1, (), ()), (6, (), ()), ring((0, 1, 2)), ring((0,)), ring((1, 0), (1,)), full_heap(2, 4, ())]
    for m in (1, 2):
        for many in (1, 2):
            heaps.extend(all_heaps(m, many))
    heaps.extend(list(all_heaps(1, 3))[::41])
    return heaps + some_heaps(150, 3, 4, 7)


def some_deeds(random, heap, many):
    """DEEDS for areas and objects of heap and a little more, many of which cannot be done."""
    deeds = []
    top = len(heap[1]) + 2
    for _ in range(many):
        word = random.choice(("new", "tie", "tie", "untie", "hold", "drop"))
        if word == "new":
            deeds.append((word, random.randrange(heap[0] + 1)))
        elif word in ("tie", "untie"):
            deeds.append((word, random.randrange(top), random.randrange(top)))
        else:
            deeds.append((word, random.randrange(top)))
    return deeds


def blocks_for(random, heap):
    """BLOCKS for heap: objects of one area are in one block or another."""
    many = random.randint(1, 3)
    return tuple([area * many + random.randrange(many) for area, _ in heap[1]])


def random_rule(random, m, plain):
    """A RULE for m areas, plain or not."""
    pairs = []
    for lot in sorted(lots(m)):
        if len(lot) > 1:
            picks = (random.choice(lot),) if plain else random.choice([own for own in subsets(lot) if own])
            pairs.append((lot, picks))
    return tuple(pairs)


def some_rules(count, most_areas, seed):
    """The list of count RULES, each beside its number of areas."""
    random = Random(seed)
    found = []
    for turn in range(count):
        m = random.randint(1, most_areas)
        found.append((m, random_rule(random, m, turn % 2 == 0)))
    return found


def all_rules(m):
    """The list of all RULES for m areas, plain or not."""
    sights = sorted(lot for lot in lots(m) if len(lot) > 1)
    picks = [[own for own in subsets(lot) if own] for lot in sights]
    return [tuple(zip(sights, picked)) for picked in product(*picks)]


def all_plain_rules(m):
    """The list of all plain RULES for m areas."""
    sights = sorted(lot for lot in lots(m) if len(lot) > 1)
    return [tuple([(lot, (area,)) for lot, area in zip(sights, picked)]) for picked in product(*sights)]


def small_and_great_rules(seed):
    """Pairs (m, RULE): all RULES for two areas, all plain ones for three, some others, up to 6 areas."""
    found = [(1, ())] + [(2, rule) for rule in all_rules(2)] + [(3, rule) for rule in all_plain_rules(3)]
    found += [(3, rule) for rule in all_rules(3)[::5]] + some_rules(30, 4, seed) + some_rules(16, 6, seed + 1)
    random = Random(seed + 2)
    found += [(m, sparse_rule(random, m)) for m in (4, 4, 5, 5, 6, 6) for _ in range(3)]
    return found + [(6, tuple([(lot, lot) for lot in sorted(lots(6)) if len(lot) > 1]))]


def sparse_rule(random, m):
    """A RULE for m areas that picks mostly in one order, so that few areas lead to one another."""
    order = random.sample(range(m), m)
    pairs = []
    for lot in sorted(lots(m)):
        if len(lot) > 1:
            row = [area for area in order if area in lot]
            picks = {random.choice(row[1:])}
            if random.randrange(8) == 0:
                picks = {random.choice(row), random.choice(row)}
            pairs.append((lot, tuple(sorted(picks))))
    return tuple(pairs)


def some_course(random, m, many):
    """A COURSE for m areas of at most so many LOTS."""
    return tuple([random.choice(lots(m)) for _ in range(random.randint(1, many))])
