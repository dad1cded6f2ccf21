"""Loose RULES: the plain RULES within a RULE, and for which of them a COURSE frees all."""

from gatheryard.basics import lots_by_size, mark, mask_of, masks_within, places_in, taken_off
from gatheryard.counts import first_tallies, pick_sizes, tally_all_one, tally_of_rows, ways_outside
from gatheryard.errors import CanNot, TooMuch
from gatheryard.leads import is_woven
from gatheryard.leastlots import lies_in
from gatheryard.mends import changed
from gatheryard.rules import areas_many, is_plain, is_rule, pick_masks, plain_at, rule_of
from gatheryard.schedules import frees_all, left_over, masks_swept

# Of how many areas a RULE is at most in which plain RULES are looked for that are woven or not freed.
MOST_AREAS = 4


def lies_within(rule, other):
    """Whether each pick of other is among those of rule."""
    return all([lies_in(less, more) for (_, more), (_, less) in zip(rule, other)])


def joined_rule(rules):
    """The RULE that may pick what some one of rules may."""
    masks = pick_masks(rules[0])
    for rule in rules:
        for own, picks in enumerate(pick_masks(rule)):
            masks[own] = masks[own] | picks
    return rule_of(masks)


def widths_within(rule):
    """For each width from 1 to m how many plain RULES within rule have it."""
    masks = pick_masks(rule)
    tallies = first_tallies(masks, len(masks) - 1)
    found, ahead = [], 0
    for most in range(1, areas_many(rule) + 1):
        good = mark([mask for mask in tallies if len(places_in(mask)) <= most])
        many = tally_of_rows(tallies, good)
        found.append(many - ahead)
        ahead = many
    return tuple(found)


def freed_many(rule, course):
    """For how many plain RULES within rule course frees all."""
    masks = pick_masks(rule)
    return tally_of_rows(first_tallies(masks, len(masks) - 1), masks_swept(areas_many(rule), course))


def plain_freed(rule, course):
    """A plain RULE within rule for which course frees all."""
    masks = pick_masks(rule)
    row = row_swept(masks, masks_swept(areas_many(rule), course))
    if row is None:
        raise CanNot()
    whole = len(masks) - 1
    for own in masks_within(whole):
        first = [mask for mask in row if mask & own][0]
        # Whatever lies in a LOT of row may pick as it likes.
        free = taken_off(masks[own], first)
        masks[own] = least_bit(free) if free else least_bit(masks[own])
    return rule_of(masks)


def is_plain_freed(rule, course, thing):
    """Whether thing is such a RULE."""
    return is_plain_within(rule, thing) and frees_all(thing, course)


def plain_missed(rule, course):
    """A plain RULE within rule for which course does not free all."""
    check_few(rule)
    for lot in left_over(lots_by_size(list(range(areas_many(rule)))), course):
        if len(lot) == 1:
            return plain_at(rule, 0)
        if weavers_many(rule, lot) > 0:
            return weaver(rule, lot)
    raise CanNot()


def is_plain_missed(rule, course, thing):
    """Whether thing is such a RULE."""
    return is_plain_within(rule, thing) and not frees_all(thing, course)


def weavers_many(rule, lot):
    """How many plain RULES within rule, narrowed to lot, have all its areas woven."""
    if len(lot) == 1:
        return 0
    return tally_all_one(pick_masks(rule), mask_of(lot))


def weaver(rule, lot):
    """A plain RULE within rule for which lot is woven."""
    check_few(rule)
    if weavers_many(rule, lot) == 0:
        raise CanNot()
    masks = pick_masks(rule)
    whole = len(masks) - 1
    for own in masks_within(whole):
        picks = [1 << area for area in places_in(masks[own])]
        # LOT by LOT one pick is settled with which some such RULE is left.
        left = [pick for pick in picks if len(picks) == 1 or tally_all_one(changed(masks, own, pick), mask_of(lot)) > 0]
        masks[own] = left[0]
    return rule_of(masks)


def is_weaver(rule, lot, thing):
    """Whether thing is such a RULE."""
    return is_plain_within(rule, thing) and is_woven(thing, lot)


def check_few(rule):
    """Raises TooMuch if rule is for too many areas to look for such a RULE."""
    if areas_many(rule) > MOST_AREAS:
        raise TooMuch()


def is_plain_within(rule, thing):
    """Whether thing is a plain RULE within rule."""
    return is_rule(thing, areas_many(rule)) and is_plain(thing) and lies_within(rule, thing)


def row_swept(masks, good):
    """The masks, all in good, of a row of all areas such that each LOT in none of them may pick one behind; or None."""
    sizes = pick_sizes(len(masks) - 1)
    rows = {0: ()}
    for left in masks_within(len(masks) - 1):
        firsts = [first for first in masks_within(left) if first in good and left - first in rows]
        fit = [first for first in firsts if ways_outside(masks, sizes, left, first) > 0]
        if fit != []:
            rows[left] = (fit[0],) + rows[left - fit[0]]
    return rows.get(len(masks) - 1)


def least_bit(mask):
    """The mask of the first place of mask alone."""
    return mask & -mask
