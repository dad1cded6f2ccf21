"""RULES: to which area a sweep moves what it keeps, by its sight."""

from gatheryard.basics import frozen, is_number, lots_within, mask_of, places_in
from gatheryard.errors import NoPlace, Unfit
from gatheryard.heaps import is_lot


def is_rule(thing, m):
    """Whether thing is a RULE for m areas."""
    if not isinstance(thing, tuple) or m < 1:
        return False
    # A RULE for m areas has 2 ** (m - 1) - 1 pairs at least, so an m beyond this needs not be counted out.
    if m > (len(thing) + 1).bit_length() or len(thing) != pairs_many(m):
        return False
    return all([is_pair_of(pair, lot) for pair, lot in zip(thing, sight_lots(m))])


def is_plain(rule):
    """Whether rule has single picks alone."""
    return all([len(picks) == 1 for _, picks in rule])


def picks_of(rule, lot):
    """The LOT of the areas of which an object with this sight may pick one."""
    lot = frozen(lot)
    if len(lot) == 1:
        return lot
    return pick_table(rule)[lot]


def rule_by(word, m):
    """The RULE for m areas with the picks of this word."""
    if word not in WORDS:
        raise Unfit()
    picks = WORDS[word]
    return tuple([(lot, picks(lot)) for lot in sight_lots(m)])


def rule_in(order):
    """The plain RULE that picks of each LOT the area that stands last in order."""
    check_areas(order, max(1, len(order)))
    at = {area: place for place, area in enumerate(order)}
    return tuple([(lot, (max(lot, key=lambda area: at[area]),)) for lot in sight_lots(len(order))])


def renamed(rule, names):
    """The RULE in which each area a is called names[a]."""
    check_areas(names, areas_many(rule))
    pairs = [(called(lot, names), called(picks, names)) for lot, picks in rule]
    return tuple(sorted(pairs))


def renamings(rule, other):
    """The list, ascending, of all names by which rule renamed is other."""
    here, there = pick_masks(rule), pick_masks(other)
    # Area by area one more is named; a mask of areas is called by the mask at its place in the second list.
    found = [((), [0])]
    for area in range(areas_many(rule)):
        longer = []
        for names, masks in found:
            fresh = [name for name in range(areas_many(rule)) if name not in names]
            longer.extend([(names + (name,), masks + [mask | (1 << name) for mask in masks]) for name in fresh])
        found = [pair for pair in longer if picks_agree(here, there, pair[1], area)]
    return [pair[0] for pair in found]


def narrowed(rule, lot):
    """The RULE for the areas of lot, called by their places in it, with the picks of rule."""
    number = {area: place for place, area in enumerate(lot)}
    inner = [(own, picks) for own, picks in frozen(rule) if all([area in number for area in own])]
    return tuple([(called(own, number), called(picks, number)) for own, picks in inner])


def unlike_at(rule, other):
    """The set of the LOTS of which rule and other have unlike picks."""
    return tuple([here[0] for here, there in zip(frozen(rule), frozen(other)) if here != there])


def plain_many(rule):
    """How many plain RULES are within rule."""
    many = 1
    for _, picks in rule:
        many = many * len(picks)
    return many


def plain_at(rule, number):
    """The plain RULE within rule with this number, ascending."""
    rule = frozen(rule)
    if not 0 <= number < plain_many(rule):
        raise NoPlace(number)
    pairs = []
    # The pick of the last LOT changes first.
    for lot, picks in reversed(rule):
        number, place = divmod(number, len(picks))
        pairs.append((lot, (picks[place],)))
    return tuple(reversed(pairs))


def number_of(rule, other):
    """The number of other among the plain RULES within rule."""
    rule, other = frozen(rule), frozen(other)
    if len(rule) != len(other) or not is_plain(other):
        raise Unfit()
    number = 0
    for (_, picks), (_, single) in zip(rule, other):
        if single[0] not in picks:
            raise Unfit()
        number = number * len(picks) + picks.index(single[0])
    return number


def greatest_pick(lot):
    """The pick of the word greatest."""
    return (lot[-1],)


def least_pick(lot):
    """The pick of the word least."""
    return (lot[0],)


def middle_pick(lot):
    """The pick of the word middle."""
    return (lot[(len(lot) - 1) // 2],)


def turn_pick(lot):
    """The pick of the word turn."""
    return (lot[sum(lot) % len(lot)],)


def all_picks(lot):
    """The picks of the word all."""
    return lot


# What each word picks of a LOT.
WORDS = {"greatest": greatest_pick, "least": least_pick, "middle": middle_pick, "turn": turn_pick, "all": all_picks}


def sight_lots(m):
    """The list, ascending, of the LOTS of two or more of m areas."""
    return [lot for lot in lots_within(list(range(m))) if len(lot) > 1]


def pairs_many(m):
    """How many pairs a RULE for m areas has."""
    return (1 << m) - m - 1


def areas_many(rule):
    """For how many areas rule is, told by how many pairs it has."""
    m = 1
    while pairs_many(m) < len(rule):
        m += 1
    return m


def is_pair_of(thing, lot):
    """Whether thing is a pair of this LOT and picks within it."""
    if not isinstance(thing, tuple) or len(thing) != 2:
        return False
    # Limits first: True is equal to 1, but is no area.
    limit = lot[-1] + 1
    if not is_lot(thing[0], limit) or not is_lot(thing[1], limit):
        return False
    return thing[0] == lot and all([area in lot for area in thing[1]])


def are_all_areas(areas, m):
    """Whether areas are all m areas, each once."""
    return len(areas) == m and all([is_number(area) for area in areas]) and sorted(areas) == list(range(m))


def check_areas(areas, m):
    """Raises Unfit if areas are not all m areas, each once."""
    if not are_all_areas(areas, m):
        raise Unfit()


def called(lot, names):
    """The LOT with the names of its areas."""
    return tuple(sorted([names[area] for area in lot]))


def pick_table(rule):
    """The dict that tells the picks of each LOT of two or more areas."""
    return {lot: picks for lot, picks in frozen(rule)}


def pick_masks(rule):
    """For each mask of areas the mask of the picks, of one area or none itself."""
    masks = list(range(1 << areas_many(rule)))
    for lot, picks in rule:
        masks[mask_of(lot)] = mask_of(picks)
    return masks


def rule_of(masks):
    """The RULE of the masks that pick_masks tells."""
    m = len(masks).bit_length() - 1
    return tuple([(lot, places_in(masks[mask_of(lot)])) for lot in sight_lots(m)])


def picks_agree(here, there, masks, area):
    """Whether the LOTS of area and areas below it have in there, by their names, the picks that they have here."""
    return all([masks[here[own]] == there[masks[own]] for own in range(1 << area, 2 << area)])
