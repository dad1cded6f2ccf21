"""COURSES that free all, whatever the HEAP, and RULES for which they do."""

from gatheryard.basics import lots_by_size, mark, mask_of
from gatheryard.chains import chain_of
from gatheryard.counts import first_tallies, tally_of_rows
from gatheryard.errors import CanNot
from gatheryard.leastlots import lies_in, lies_in_some
from gatheryard.rounds import is_course
from gatheryard.rules import areas_many, is_plain, is_rule, pick_masks, rule_by, sight_lots


def frees_all(rule, course):
    """Whether course frees all for rule."""
    return left_over(chain_of(rule), course) == []


def demands(rules):
    """The set of the LOTS of the CHAINS of rules, but for those within another one of these."""
    lots = sorted(set([lot for rule in rules for lot in chain_of(rule)]))
    return tuple([lot for lot in lots if not any([lies_in(lot, other) and lot != other for other in lots])])


def fewest_course(rules, most):
    """A COURSE of fewest LOTS, of at most most areas, that frees all for each of rules."""
    course = fewest_cover(list(demands(rules)), areas_many(rules[0]), most)
    if course is None:
        raise CanNot()
    return course


def is_fewest_course(rules, most, thing):
    """Whether thing is such a COURSE."""
    if not is_course(thing, areas_many(rules[0])) or not all([len(lot) <= most for lot in thing]):
        return False
    wanted = demands(rules)
    return left_over(wanted, thing) == [] and len(thing) == len(fewest_cover(wanted, areas_many(rules[0]), most))


def lots_added(rule, course, most):
    """The least number of LOTS, of at most most areas, that make course free all."""
    added = fewest_cover(left_over(chain_of(rule), course), areas_many(rule), most)
    if added is None:
        raise CanNot()
    return len(added)


def count_freed(m, course):
    """For how many plain RULES for m areas course frees all."""
    masks = pick_masks(rule_by("all", m))
    return tally_of_rows(first_tallies(masks, len(masks) - 1), masks_swept(m, course))


def courses_alike(m, course, other):
    """Whether course and other free all for the same plain RULES."""
    return telling_lots(m, course) == telling_lots(m, other)


def parting_rule(m, course, other):
    """A plain RULE for which just one of course and other frees all."""
    here, there = telling_lots(m, course), telling_lots(m, other)
    for lot in lots_by_size(list(range(m))):
        if (lot in here) != (lot in there):
            return rule_begun_with(m, lot)
    raise CanNot()


def is_parting_rule(m, course, other, thing):
    """Whether thing is a plain RULE for which just one of course and other frees all."""
    if not is_rule(thing, m) or not is_plain(thing):
        return False
    return frees_all(thing, course) != frees_all(thing, other)


def left_over(lots, course):
    """The list of those of lots that do not lie in course."""
    return [lot for lot in lots if not lies_in_some(lot, course)]


def fewest_cover(wanted, m, most):
    """Of the rows of fewest LOTS, of at most most of m areas, in which all of wanted lie, one; None without."""
    if any([len(lot) > most for lot in wanted]):
        return None
    # Greater LOTS have more of wanted in them, so no lesser ones are tried.
    lots = [lot for lot in lots_by_size(list(range(m))) if len(lot) == min(most, m)]
    rows = [()]
    while True:
        longer, seen = [], {}
        for row in rows:
            left = tuple(left_over(wanted, row))
            if left == ():
                return row
            if left not in seen:
                seen[left] = True
                # Some LOT has the first one that is left in it.
                longer.extend([row + (lot,) for lot in lots if lies_in(left[0], lot)])
        rows = longer


def masks_swept(m, course):
    """The dict whose keys are the masks of the LOTS of m areas that lie in course."""
    return mark([mask_of(lot) for lot in lots_by_size(list(range(m))) if lies_in_some(lot, course)])


def telling_lots(m, course):
    """The LOTS of one area, three or more that lie in course; [] if it leaves some area out."""
    lots = [lot for lot in lots_by_size(list(range(m))) if len(lot) != 2]
    if not all([lies_in_some(lot, course) for lot in lots if len(lot) == 1]):
        return []
    return [lot for lot in lots if lies_in_some(lot, course)]


def rule_begun_with(m, lot):
    """A plain RULE whose CHAIN is lot, of one area, three or more, then each other area, ascending."""
    pairs = []
    for own in sight_lots(m):
        outside = [area for area in own if area not in lot]
        if outside != []:
            pick = outside[-1]
        elif own == lot:
            # Pair by pair each area of lot leads to the next one; by this all lead to the first.
            pick = own[0]
        else:
            pick = own[-1]
        pairs.append((own, (pick,)))
    return tuple(pairs)
