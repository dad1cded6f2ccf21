"""One judge: CLAIMS about HEAPS and RULES, the PAPERS that show that they are so or not, and what comes of them."""

from gatheryard.basics import frozen, is_number, lots_within
from gatheryard.chains import bar_to, chain_of, is_bar_to, is_linking, widest, width
from gatheryard.errors import Unfit
from gatheryard.heaps import areas_of, dead, is_heap, is_lot
from gatheryard.leastlots import lies_in, lies_in_some
from gatheryard.mends import change_orders, fewest_changes, floor_of, is_floor, order_changes
from gatheryard.parts import part_row
from gatheryard.rounds import is_course
from gatheryard.rows import barring_part, is_barring_part, is_freeing, many_needed, parts_before
from gatheryard.rules import are_all_areas, areas_many, is_plain, is_rule
from gatheryard.schedules import frees_all, left_over
from gatheryard.stuck import is_against, stuck_against
from gatheryard.sweeps import freed, hold_of, is_hold, is_shut, shut_of
from gatheryard.told import bar, is_bar, is_order_told, is_told, order_told

# How many values stand behind each word of a CLAIM.
NAMED = {"free": 3, "ever": 3, "good": 2, "width": 2, "fewest": 2, "told": 2}


def is_claim(thing):
    """Whether thing is a CLAIM."""
    if not isinstance(thing, tuple) or thing == () or not isinstance(thing[0], str):
        return False
    word, *named = thing
    if len(named) != NAMED.get(word):
        return False
    if word == "free":
        return is_free_claim(*named)
    if word == "ever":
        return is_ever_claim(*named)
    first, second = named
    if word == "told":
        return is_number(first) and first >= 1 and is_told(second, first)
    if not isinstance(first, tuple) or not is_rule(first, areas_many(first)):
        return False
    if word == "good":
        return is_course(second, areas_many(first))
    if word == "width":
        return is_number(second) and second >= 1
    return is_plain(first) and is_number(second) and second >= 0


def is_so(claim):
    """Whether claim is so."""
    word, *named = checked(claim)
    first, second = named[:2]
    if word == "free":
        return named[2] in freed(first, second)
    if word == "ever":
        return many_needed(first, second) <= named[2]
    if word == "good":
        return frees_all(first, second)
    if word == "width":
        return width(first) <= second
    if word == "fewest":
        return fewest_changes(first, 1) <= second
    return order_told(first, second) is not None


def paper(claim):
    """A PAPER for claim if it is so, otherwise one against it."""
    word, *named = checked(claim)
    if is_so(claim):
        return paper_for(word, named)
    return paper_against(word, named)


def is_paper_for(claim, thing):
    """Whether thing is a PAPER for claim."""
    word, *named = checked(claim)
    if word == "free":
        return is_shut(*named, thing)
    if word == "ever":
        return is_freeing(*named, thing)
    if word == "told":
        return is_order_told(*named, thing)
    rule, second = named
    if word == "good":
        return is_linking(rule, thing) and left_over(thing, second) == []
    if word == "width":
        return is_linking(rule, thing) and widest(thing) <= second
    if not isinstance(thing, tuple) or not are_all_areas(thing, areas_many(rule)):
        return False
    return len(order_changes(rule, thing)) <= second


def is_paper_against(claim, thing):
    """Whether thing is a PAPER against claim."""
    word, *named = checked(claim)
    if word == "free":
        return is_hold(*named, thing)
    if word == "ever":
        return is_barring_part(*named, thing)
    if word == "good":
        return is_against(*named, thing)
    if word == "width":
        return is_bar_to(*named, thing)
    first, second = named
    if word == "told":
        return is_bar(second, thing)
    return is_floor(first, thing) and number_for_all(first, thing) > second


def verdicts(claims, things):
    """For each CLAIM and the value at its place in things "for", "against" or "none"."""
    claims = [checked(claim) for claim in claims]
    if len(claims) != len(things):
        raise Unfit()
    return [verdict(claim, thing) for claim, thing in zip(claims, things)]


def comes_of(claim, claims):
    """Whether claim comes of claims."""
    claim, claims = checked(claim), [checked(own) for own in claims]
    return any([follows(claim, source) for own in claims for source in strongest_of(own)])


def first_false(claims):
    """The first place whose CLAIM is not so, None if all are."""
    claims = [checked(claim) for claim in claims]
    for place, claim in enumerate(claims):
        if not is_so(claim):
            return place
    return None


def checked(claim):
    """The CLAIM with tuples in the place of lists; Unfit if it is none."""
    claim = frozen(claim)
    if not is_claim(claim):
        raise Unfit()
    return claim


def is_free_claim(heap, lot, one):
    """Whether a CLAIM may say that a sweep of lot frees one."""
    if not is_heap(heap) or not is_lot(lot, heap[0]) or not is_number(one):
        return False
    return 0 <= one < len(heap[1]) and heap[1][one][0] in lot


def is_ever_claim(heap, goal, most):
    """Whether a CLAIM may say that some ROW of LOTS of at most most areas frees goal."""
    if not is_heap(heap) or not is_number(most) or not 1 <= most <= heap[0]:
        return False
    return is_lot(goal, len(heap[1])) and lies_in(goal, dead(heap))


def paper_for(word, named):
    """A PAPER for a CLAIM that is so."""
    first, second = named[:2]
    if word == "free":
        return shut_of(*named)
    if word == "ever":
        before = parts_before(first, second)
        return tuple([areas_of(first, part) for part in part_row(first) if part in before])
    if word == "fewest":
        return change_orders(first)[0]
    if word == "told":
        return order_told(first, second)
    # The CHAIN is the least of all LINKINGS.
    return chain_of(first)


def paper_against(word, named):
    """A PAPER against a CLAIM that is not so."""
    if word == "free":
        return hold_of(*named)
    if word == "ever":
        return barring_part(*named)
    if word == "good":
        return stuck_against(*named)
    if word == "width":
        return bar_to(*named)
    if word == "fewest":
        return floor_of(named[0])
    return bar(*named)


def number_for_all(rule, floor):
    """The number that a FLOOR of rule has for the LOT of all areas."""
    areas = tuple(range(areas_many(rule)))
    return floor[lots_within(areas).index(areas)]


def verdict(claim, thing):
    """Whether thing is a PAPER "for" or "against" claim, or "none"."""
    if is_paper_for(claim, thing):
        return "for"
    return "against" if is_paper_against(claim, thing) else "none"


def strongest_of(claim):
    """CLAIMS that come of claim, or are it, such that each one that does comes of one of them by one rule."""
    word, first, second = claim[:3]
    if word == "good":
        return (claim,) + widths_from(first, widest(second))
    if word == "width":
        # All LOTS lie within that of all areas, so no greater width says more.
        return widths_from(first, min(second, areas_many(first)))
    if word == "fewest" and second == 0:
        return widths_from(first, 1)
    return (claim,)


def widths_from(rule, most):
    """That the width of rule is at most most, and that no change is wanted, if this says so."""
    if most == 1 and is_plain(rule):
        return (("width", rule, 1), ("fewest", rule, 0))
    return (("width", rule, most),)


def follows(claim, source):
    """Whether claim comes of source by one rule, or is it."""
    word, *named = claim
    other, *told = source
    if word == "good" and other == "width" and named[0] == told[0]:
        few = [lot for lot in lots_within(list(range(areas_many(told[0])))) if len(lot) <= told[1]]
        return left_over(few, named[1]) == []
    if word != other or named[0] != told[0]:
        return False
    if word == "free":
        return named[2] == told[2] and lies_in(told[1], named[1])
    if word == "ever":
        return named[2] >= told[2] and lies_in(named[1], told[1])
    if word == "good":
        return all([lies_in_some(lot, named[1]) for lot in told[1]])
    if word == "told":
        return lies_in(named[1], told[1])
    return named[1] >= told[1]
