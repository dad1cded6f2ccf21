"""How many plain RULES within a RULE have this or that CHAIN, all told by masks of areas."""

from gatheryard.basics import masks_within, places_in, taken_off


def first_tallies(masks, inside):
    """How many plain RULES there are for each LOT within the mask inside, by the first LOT of their CHAIN.

    For each mask of a LOT, ascending, the dict with how many ways there are to pick for all LOTS within it that meet
    the first LOT of its CHAIN, by the mask of that. masks tells the picks that are free.
    """
    sizes = pick_sizes(inside)
    tallies, totals = {}, {}
    for left in masks_within(inside):
        found = {}
        for first in masks_within(left)[:-1]:
            found[first] = tallies[first][first] * ways_outside(masks, sizes, left, first)
        totals[left] = 1
        for own in masks_within(left):
            totals[left] = totals[left] * sizes[masks[own]]
        # Who has no lesser first LOT is all one.
        found[left] = totals[left] - sum([found[first] * totals[left - first] for first in found])
        tallies[left] = found
    return tallies


def pick_sizes(inside):
    """For each mask up to inside how many areas it has."""
    return [len(places_in(mask)) for mask in range(inside + 1)]


def ways_outside(masks, sizes, left, first):
    """In how many ways all LOTS within the mask left that meet first, but do not lie in it, pick outside of it."""
    many = 1
    for own in masks_within(left):
        if own & first not in (0, own):
            many = many * sizes[taken_off(masks[own], first)]
    return many


def tally_of_rows(tallies, good):
    """How many plain RULES have a CHAIN of LOTS alone whose masks are in good."""
    totals = {0: 1}
    for left, found in tallies.items():
        totals[left] = sum([many * totals[left - first] for first, many in found.items() if first in good])
    return totals[max(tallies)]


def tally_all_one(masks, inside):
    """How many plain RULES for the LOT of the mask inside have a CHAIN of it alone."""
    return first_tallies(masks, inside)[inside][inside]
