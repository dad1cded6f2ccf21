"""Counts of plain RULES by their CHAINS, also of those within a RULE, and the numbers of those of width 1."""

from math import comb

from gatheryard.basics import frozen, lots_within, masks_within, orders_of, places_in, taken_off
from gatheryard.chains import order_of, width
from gatheryard.errors import CanNot, Unfit
from gatheryard.rules import areas_many, number_of, plain_at, plain_many, rule_by, sight_lots


def rules_many(m):
    """How many RULES for m areas there are."""
    return plain_many(rule_by("all", m))


def all_one_many(m):
    """How many RULES for m areas are all one."""
    return all_one_counts(m)[m]


def ordered_many(m):
    """How many RULES for m areas have width 1."""
    return len(orders_of(m)) * rules_an_order(m)


def widths_many(m):
    """For each width from 1 to m how many RULES for m areas have it."""
    counts, found = all_one_counts(m), [0 for _ in range(m)]
    for sizes in sizes_of(m):
        found[max(sizes) - 1] += chains_with(sizes) * rules_with(sizes, counts)
    return tuple(found)


def sizes_many(m, sizes):
    """How many RULES for m areas have a CHAIN whose LOTS have just these sizes, in this order."""
    if sum(sizes) != m:
        return 0
    return chains_with(sizes) * rules_with(sizes, all_one_counts(m))


def chains_many(m):
    """How many unlike CHAINS the RULES for m areas have."""
    counts = all_one_counts(m)
    return sum([chains_with(sizes) for sizes in sizes_of(m) if rules_with(sizes, counts) > 0])


def chain_many(m, chain):
    """How many RULES for m areas have this CHAIN."""
    if sorted([area for lot in chain for area in lot]) != list(range(m)):
        raise Unfit()
    return rules_with([len(lot) for lot in chain], all_one_counts(m))


def order_number(rule):
    """The number of a RULE of width 1."""
    if width(rule) != 1:
        raise Unfit()
    order, m = order_of(rule), areas_many(rule)
    return orders_of(m).index(order) * rules_an_order(m) + number_of(rules_of(order), rule)


def order_rule(m, number):
    """The RULE of width 1 for m areas with this number."""
    if not 0 <= number < ordered_many(m):
        raise CanNot()
    ahead, behind = divmod(number, rules_an_order(m))
    return plain_at(rules_of(orders_of(m)[ahead]), behind)


def ordered_with(m, told):
    """How many RULES of width 1 for m areas pick what is told."""
    many = 1
    picked = dict(frozen(told))
    for lot in sight_lots(m):
        if lot not in picked:
            many = many * (len(lot) - 1)
    return many * len(orders_with(m, told))


def orders_with(m, told):
    """The list, ascending, of the orders of the RULES of width 1 for m areas that pick what is told."""
    told = frozen(told)
    if len(dict(told)) < len(told):
        return []
    return [order for order in orders_of(m) if all([first_in(order, lot) != area for lot, area in told])]


def first_in(order, lot):
    """The area of lot that is told first in order."""
    return [area for area in order if area in lot][0]


def rules_of(order):
    """The RULE within which are just the plain RULES of this order."""
    pairs = []
    for lot in sight_lots(len(order)):
        first = first_in(order, lot)
        pairs.append((lot, tuple([area for area in lot if area != first])))
    return tuple(pairs)


def rules_an_order(m):
    """How many RULES for m areas have one order."""
    return plain_many(rules_of(tuple(range(m))))


def sizes_of(m):
    """The list of all tuples of numbers from 1 that come to m."""
    if m == 0:
        return [()]
    return [(size,) + others for size in range(1, m + 1) for others in sizes_of(m - size)]


def chains_with(sizes):
    """How many rows of LOTS of these sizes there are, in this order, each area in just one of them."""
    left, many = sum(sizes), 1
    for size in sizes:
        many = many * comb(left, size)
        left -= size
    return many


def all_one_counts(m):
    """For each number of areas from 0 to m how many RULES for so many are all one, 1 for none."""
    counts = [1]
    for areas in range(1, m + 1):
        parted = [sizes for sizes in sizes_of(areas) if len(sizes) > 1]
        others = sum([chains_with(sizes) * rules_with(sizes, counts) for sizes in parted])
        counts.append(rules_many(areas) - others)
    return counts


def rules_with(sizes, counts):
    """How many RULES have one CHAIN of LOTS of these sizes, counts having how many are all one."""
    left, many = sum(sizes), 1
    for size in sizes:
        left -= size
        many = many * counts[size]
        # Each LOT of areas behind the first LOT, with each LOT within this: it picks one from behind.
        outside = [len(lot) for lot in lots_within(list(range(left)))]
        for choices in outside:
            many = many * raised(choices, (1 << size) - 1)
    return many


def raised(number, times):
    """The number multiplied with itself, so many times in all."""
    many = 1
    for _ in range(times):
        many = many * number
    return many


def first_tallies(masks, inside):
    """How many plain RULES there are for each LOT within the mask inside, by the first LOT of their CHAIN.

    For each mask of a LOT, ascending, the dict with how many ways there are to pick for all LOTS within it that meet
    the first LOT of its CHAIN, by the mask of that. masks tells the picks that are free.
    """
    sizes = pick_sizes(inside)
    tallies, totals = {}, {}
    for left in masks_within(inside):
        found = {}
        for first in masks_within(left)[:-1]:
            found[first] = tallies[first][first] * ways_outside(masks, sizes, left, first)
        totals[left] = 1
        for own in masks_within(left):
            totals[left] = totals[left] * sizes[masks[own]]
        # Who has no lesser first LOT is all one.
        found[left] = totals[left] - sum([found[first] * totals[left - first] for first in found])
        tallies[left] = found
    return tallies


def pick_sizes(inside):
    """For each mask up to inside how many areas it has."""
    return [len(places_in(mask)) for mask in range(inside + 1)]


def ways_outside(masks, sizes, left, first):
    """In how many ways all LOTS within the mask left that meet first, but do not lie in it, pick outside of it."""
    many = 1
    for own in masks_within(left):
        if own & first not in (0, own):
            many = many * sizes[taken_off(masks[own], first)]
    return many


def tally_of_rows(tallies, good):
    """How many plain RULES have a CHAIN of LOTS alone whose masks are in good."""
    totals = {0: 1}
    for left, found in tallies.items():
        totals[left] = sum([many * totals[left - first] for first, many in found.items() if first in good])
    return totals[max(tallies)]


def tally_all_one(masks, inside):
    """How many plain RULES for the LOT of the mask inside have a CHAIN of it alone."""
    return first_tallies(masks, inside)[inside][inside]
