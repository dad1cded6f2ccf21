"""Areas as ages: small sweeps of the youngest ones, behind which all that is kept is one age older."""

from gatheryard.basics import check_places, frozen, mark
from gatheryard.errors import Unfit
from gatheryard.leastlots import need_of, needs
from gatheryard.moves import heap_at
from gatheryard.sweeps import freed, kept_dead


def burden(heap, one):
    """The greatest age of the objects ahead of a dead object."""
    return need_of(heap, one)[-1]


def aged(heap, age):
    """The HEAP behind a small sweep to age."""
    check_places((age,), heap[0])
    gone = mark(freed(heap, ages_to(age)))
    stand = []
    for one, (own, _) in enumerate(heap[1]):
        older = min(own + 1, heap[0] - 1) if own <= age else own
        stand.append(None if one in gone else older)
    return heap_at(heap, tuple(stand))


def aged_by(heap, row):
    """The list of the HEAPS behind 0, 1, .. small sweeps of row."""
    heaps = [frozen(heap)]
    for age in row:
        heaps.append(aged(heaps[-1], age))
    return heaps


def young_kept(heap, age):
    """The set of the dead objects of ages up to age that a small sweep to age keeps."""
    check_places((age,), heap[0])
    return kept_dead(heap, ages_to(age))


def freed_places(heap, row):
    """For each object the place in row of the small sweep that frees it, None if none does."""
    check_places(row, heap[0])
    # A burden stays as it is till it is swept.
    return tuple([None if need is None else first_from(row, need[-1]) for need in needs(heap)])


def burden_tally(heap):
    """For each age how many dead objects have this burden."""
    tally = [0 for _ in range(heap[0])]
    for need in needs(heap):
        if need is not None:
            tally[need[-1]] += 1
    return tuple(tally)


def alike_aged(heap, other):
    """Whether the small sweeps of all rows free as many in heap as in other."""
    return parting_age(heap, other) is None


def parting_age(heap, other):
    """The least age a small sweep to which frees unlike numbers in heap and other, None if there is none."""
    if heap[0] != other[0]:
        raise Unfit()
    # Below the first age with unlike tallies as many are freed in both.
    for age, (here, there) in enumerate(zip(burden_tally(heap), burden_tally(other))):
        if here != there:
            return age
    return None


def till_gone(heap, row):
    """How many small sweeps of row, coming again and again, there are till nothing dead is left; None if some stays."""
    check_places(row, heap[0])
    # Who is freed at all is so when row comes for the first time.
    places = [first_from(row, need[-1]) for need in needs(heap) if need is not None]
    if None in places:
        return None
    return max([place + 1 for place in places], default=0)


def ages_to(age):
    """The LOT of the ages 0 to age."""
    return tuple(range(age + 1))


def first_from(row, age):
    """The first place of row with at least this age, None without."""
    for place, own in enumerate(row):
        if own >= age:
            return place
    return None
