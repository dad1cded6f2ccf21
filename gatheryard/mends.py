"""Mends: in which LOTS a plain RULE is to be changed so that its width is less."""

from gatheryard.basics import is_number, lots_within, mask_of, masks_within, orders_of, places_in, taken_off
from gatheryard.chains import chain_masks, chain_of, offending, widest
from gatheryard.errors import CanNot
from gatheryard.rules import areas_many, check_areas, is_plain, is_rule, pick_masks, rule_of, unlike_at


def order_changes(rule, order):
    """The set of the LOTS that offend order."""
    check_areas(order, areas_many(rule))
    changes = offending(pick_masks(rule), [1 << area for area in order])
    return tuple(sorted([places_in(own) for own in changes]))


def fewest_changes(rule, width):
    """The least number of LOTS in which rule is to be changed so that its width is at most width."""
    return fewest_row(pick_masks(rule), width)[0]


def changes_row(rule):
    """The tuple of the fewest changes for the widths 1, 2, .. up to all areas."""
    return tuple([fewest_changes(rule, many) for many in range(1, areas_many(rule) + 1)])


def change_orders(rule):
    """The list, ascending, of the tuples of all areas that as few LOTS as can be offend."""
    masks = pick_masks(rule)
    fewest, counts = fewest_row(masks, 1)[0], pick_counts(masks)
    return [order for order in orders_of(areas_many(rule)) if changes_by(counts, order) == fewest]


def mended(rule, width):
    """A plain RULE of at most this width that is rule changed in as few LOTS as can be."""
    masks = pick_masks(rule)
    changes = offending(masks, fewest_row(masks, width)[1])
    for own, first in changes.items():
        masks[own] = 1 << places_in(taken_off(own, first))[0]
    return rule_of(masks)


def is_mended(rule, width, thing):
    """Whether thing is such a RULE."""
    if not is_rule(thing, areas_many(rule)) or not is_plain(thing) or widest(chain_of(thing)) > width:
        return False
    return len(unlike_at(rule, thing)) == fewest_changes(rule, width)


def changes_within(rule, loose):
    """The least number of changes to width 1 with picks among those of loose alone."""
    masks, free = pick_masks(rule), pick_masks(loose)
    fewest = {0: 0}
    # What is left of an order is begun with whichever area makes it the best.
    for left in masks_within(len(masks) - 1):
        found = []
        for first in places_in(left):
            changes = changes_ahead(masks, free, left, 1 << first)
            if changes is not None and left - (1 << first) in fewest:
                found.append(changes + fewest[left - (1 << first)])
        if found != []:
            fewest[left] = min(found)
    if len(masks) - 1 not in fewest:
        raise CanNot()
    return fewest[len(masks) - 1]


def floor_of(rule):
    """The FLOOR of rule with the greatest number for each LOT."""
    counts = pick_counts(pick_masks(rule))
    floor = {0: 0}
    for own, picked in counts.items():
        floor[own] = min([many + floor[own - (1 << area)] for area, many in picked.items()])
    return tuple([floor[mask_of(lot)] for lot in lots_within(list(range(areas_many(rule))))])


def is_floor(rule, thing):
    """Whether thing is a FLOOR of rule."""
    lots = lots_within(list(range(areas_many(rule))))
    if not isinstance(thing, tuple) or len(thing) != len(lots) or not all([is_number(number) for number in thing]):
        return False
    floor = {mask_of(lot): number for lot, number in zip(lots, thing)}
    for own, picked in pick_counts(pick_masks(rule)).items():
        if len(picked) == 1 and floor[own] != 0:
            return False
        if len(picked) > 1 and floor[own] > min([many + floor[own - (1 << area)] for area, many in picked.items()]):
            return False
    return True


def safe_picks(rule):
    """The RULE with, for each LOT, all picks of it alone with which the CHAIN stays."""
    masks = pick_masks(rule)
    chain, safe = chain_masks(masks, len(masks) - 1), list(masks)
    for own, pick in single_changes(masks):
        if chain_masks(changed(masks, own, pick), len(masks) - 1) == chain:
            safe[own] = safe[own] | pick
    return rule_of(safe)


def widths_by_one(rule):
    """The set of the widths of all RULES that are rule changed in just one LOT."""
    masks = pick_masks(rule)
    chains = [chain_masks(changed(masks, own, pick), len(masks) - 1) for own, pick in single_changes(masks)]
    return tuple(sorted(set([max([len(places_in(own)) for own in chain]) for chain in chains])))


def pick_counts(masks):
    """For each mask of areas, ascending, the dict of how many LOTS of two or more within it pick each of them."""
    counts = {}
    for inside in masks_within(len(masks) - 1):
        # The LOT of an area alone picks it, too.
        picked = {area: -1 for area in places_in(inside)}
        for own in masks_within(inside):
            picked[masks[own].bit_length() - 1] += 1
        counts[inside] = picked
    return counts


def fewest_row(masks, most):
    """The fewest LOTS that offend a row of LOTS of at most most areas, and the masks of such a row."""
    counts = pick_counts(masks)
    best = {0: (0, ())}
    for left, picked in counts.items():
        ways = []
        for first in masks_within(left):
            areas = places_in(first)
            if len(areas) <= most:
                # All LOTS within first pick from it, too, but do not offend.
                changes = sum([picked[area] for area in areas]) - (1 << len(areas)) + len(areas) + 1
                fewest, row = best[left - first]
                ways.append((changes + fewest, (first,) + row))
        best[left] = min(ways)
    return best[len(masks) - 1]


def changes_by(counts, order):
    """How many LOTS offend order."""
    left, many = mask_of(order), 0
    for area in order:
        many += counts[left][area]
        left = left - (1 << area)
    return many


def changes_ahead(masks, free, left, first):
    """How many LOTS of the mask left with first are to be changed to pick another one of free; None if one cannot."""
    many = 0
    for own in masks_within(left):
        if own & first and own != first:
            others = taken_off(free[own], first)
            if others == 0:
                return None
            if masks[own] & others == 0:
                many += 1
    return many


def single_changes(masks):
    """All pairs of the mask of a LOT and that of another pick of it."""
    pairs = [(own, 1 << area) for own in masks_within(len(masks) - 1) for area in places_in(own)]
    return [pair for pair in pairs if masks[pair[0]] != pair[1]]


def changed(masks, own, pick):
    """The masks with this pick of the LOT of the mask own."""
    return masks[:own] + [pick] + masks[own + 1:]
