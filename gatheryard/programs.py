"""Programs: deeds that make objects, tie and untie them, hold them and let them go."""

from gatheryard.basics import frozen, is_number
from gatheryard.errors import Unfit
from gatheryard.heaps import dead, live, retied

# How many objects a DEED names behind its word.
NAMED = {"tie": 2, "untie": 2, "hold": 1, "drop": 1}


def is_deed(thing, m):
    """Whether thing is a DEED for m areas, its objects any numbers from 0."""
    if not isinstance(thing, tuple) or thing == () or not isinstance(thing[0], str):
        return False
    word, named = thing[0], thing[1:]
    if not all([is_number(place) and place >= 0 for place in named]):
        return False
    if word == "new":
        return len(named) == 1 and named[0] < m
    return word in NAMED and len(named) == NAMED[word]


def can_do(heap, deed):
    """Whether a program can do deed."""
    heap, deed = frozen(heap), frozen(deed)
    if not is_deed(deed, heap[0]):
        return False
    if deed[0] == "new":
        return True
    if not all([place < len(heap[1]) for place in deed[1:]]):
        return False
    return can_do_there(heap, deed)


def can_do_there(heap, deed):
    """Whether a program can do a DEED whose objects are all there, a new one apart."""
    word, one = deed[0], deed[1]
    if word == "drop":
        return one in heap[2]
    alive = live(heap)
    if word == "hold":
        return one in alive and one not in heap[2]
    far, ties = deed[2], heap[1][one][1]
    if word == "tie":
        return one in alive and far in alive and far not in ties
    return one in alive and far in ties


def done(heap, deed):
    """The HEAP behind deed."""
    if not can_do(heap, deed):
        raise Unfit()
    heap, deed = frozen(heap), frozen(deed)
    m, objects, roots = heap
    word, one = deed[0], deed[1]
    if word == "new":
        return (m, objects + ((one, ()),), roots + (len(objects),))
    if word == "tie":
        return retied(heap, one, tuple(sorted(objects[one][1] + (deed[2],))))
    if word == "untie":
        return retied(heap, one, tuple([far for far in objects[one][1] if far != deed[2]]))
    if word == "hold":
        return (m, objects, tuple(sorted(roots + (one,))))
    return (m, objects, tuple([root for root in roots if root != one]))


def run(heap, deeds):
    """The list of the HEAPS behind the first 0, 1, .. of deeds, up to all."""
    heap = frozen(heap)
    heaps = [heap]
    for deed in deeds:
        heap = done(heap, deed)
        heaps.append(heap)
    return heaps


def deaths(heap, deeds):
    """For each object of the last HEAP behind how many of deeds it is dead first, None if never."""
    heaps = run(heap, deeds)
    first = [None for _ in heaps[-1][1]]
    for many, own in enumerate(heaps):
        for one in dead(own):
            if first[one] is None:
                first[one] = many
    return tuple(first)


def script_of(heap):
    """DEEDS that make heap from the HEAP of as many areas without objects."""
    objects, roots = frozen(heap)[1:]
    news = [("new", pair[0]) for pair in objects]
    ties = [("tie", near, far) for near, pair in enumerate(objects) for far in pair[1]]
    drops = [("drop", one) for one in range(len(objects)) if one not in roots]
    return tuple(news + ties + drops)
