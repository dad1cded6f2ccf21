"""Rounds: a COURSE of LOTS swept again and again by a plain RULE."""

from gatheryard.basics import frozen, mark
from gatheryard.errors import TooMuch
from gatheryard.heaps import ahead_of, dead
from gatheryard.moves import check_pairs, check_plain, first_stand, freed_when, stands_along, yard_of
from gatheryard.parts import dead_parts
from gatheryard.rows import is_row

# How many rounds are made at most till a STAND comes again.
MOST_ROUNDS = 200


def is_course(thing, m):
    """Whether thing is a COURSE for m areas, however long."""
    return is_row(thing, m) and thing != ()


def round_stands(heap, rule, course, many):
    """The list of the STANDS behind 0, 1, .., many rounds."""
    yard = checked_yard(heap, rule)
    stands = [first_stand(heap)]
    for _ in range(many):
        stands.append(stands_along(yard, stands[-1], course)[-1])
    return stands


def stand_round(heap, rule, course):
    """The least many, and for it the least length, such that many and many + length rounds come to one STAND."""
    stands, again = turning_stands(checked_yard(heap, rule), first_stand(heap), course)
    return (again, len(stands) - again)


def stand_far(heap, rule, course, many):
    """The STAND behind many sweeps."""
    yard = checked_yard(heap, rule)
    stands, again = turning_stands(yard, first_stand(heap), course)
    rounds, more = divmod(many, len(course))
    if rounds >= len(stands):
        rounds = again + (rounds - again) % (len(stands) - again)
    return stands_along(yard, stands[rounds], course[:more])[-1]


def freed_far(heap, rule, course):
    """For each object behind how many sweeps it is freed, None if it never is."""
    again = stand_round(heap, rule, course)[0]
    # What is freed at all is so ahead of the first STAND that comes again.
    return freed_when(heap, rule, frozen(course) * again)


def rounds_till(heap, rule, course):
    """The least number of rounds behind which all dead objects are freed, None if some never are."""
    stands = turning_stands(checked_yard(heap, rule), first_stand(heap), course)[0]
    gone = dead(heap)
    for rounds, stand in enumerate(stands):
        if all([stand[one] is None for one in gone]):
            return rounds
    return None


def lasting(heap, rule, course):
    """The set of the dead objects that are never freed."""
    last = turning_stands(checked_yard(heap, rule), first_stand(heap), course)[0][-1]
    return tuple([one for one in dead(heap) if last[one] is not None])


def lasting_parts(heap, rule, course):
    """The list, ascending, of the dead parts that are never freed and ahead of which nothing else is that is not."""
    left = mark(lasting(heap, rule, course))
    found = []
    for part in dead_parts(heap):
        before = tuple([one for one in ahead_of(heap, part[0]) if one in left])
        if before == part:
            found.append(part)
    return found


def slow_ring(many):
    """A HEAP of one ring of so many objects over two areas, one of them in the second."""
    return (2, tuple([(0 if one else 1, ((one + 1) % many,)) for one in range(many)]), ())


def checked_yard(heap, rule):
    """The yard of heap and rule; raises Unfit if rule is no plain RULE for the areas of heap."""
    check_pairs(heap, rule)
    check_plain(rule)
    return yard_of(heap, rule)


def turning_stands(yard, stand, course):
    """The unlike STANDS behind 0, 1, .. rounds from stand on, and the number of that to which the next one leads."""
    seen, stands = {}, []
    while stand not in seen:
        if len(stands) == MOST_ROUNDS:
            raise TooMuch()
        seen[stand] = len(stands)
        stands.append(stand)
        stand = stands_along(yard, stand, course)[-1]
    return stands, seen[stand]
