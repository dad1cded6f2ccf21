"""Section 6: parts."""

from itertools import permutations
from unittest import TestCase

from gatheryard import errors, parts as module
from gatheryard.errors import NoPlace, Unfit
from gatheryard.parts import (dead_parts, dies_without, foremost, grips, is_ahead, is_part, joints, lots_ahead,
                              part_depth, part_of, part_row, part_ties, parts, parts_without)
from tests.checks import NOTHINGS, check_call, check_examples, spoilt
from tests.makers import chain_heap, full_heap, great_heaps, ring, ring_of_rings, small_heaps, some_heaps, subsets
from tests.plain import (alive, all_ahead, all_dead_parts, all_parts, areas, as_set, lifeless, members, tied, without)

EXAMPLES = """
>>> yard = (3, ((0, (1,)), (1, (2,)), (0, (0, 3)), (2, (4,)), (2, ()), (1, (6,)), (1, ())), (5,))
>>> parts(yard), dead_parts(yard), foremost(yard)
([(0, 1, 2), (3,), (4,), (5,), (6,)], [(0, 1, 2), (3,), (4,)], [(0, 1, 2)])
>>> part_of(yard, 2), is_ahead(yard, 0, 3), is_ahead(yard, 4, 3), is_ahead(yard, 4, 4), is_part(yard, (0, 1))
((0, 1, 2), True, False, True, False)
>>> part_row((2, ((0, ()), (1, (0,)), (0, (0,))), ())), part_ties(yard), part_depth(yard, 4), part_depth(yard, 6)
([(1,), (2,), (0,)], ((0, 1), (1, 2)), 3, 2)
>>> lots_ahead(yard, 4), lots_ahead(yard, 1)
([(0, 1), (2,), (2,)], [(0, 1)])
>>> parts_without(yard, 1, 2), parts_without(yard, 2, 3), joints(yard)
([(0,), (1,), (2,)], [], ((0, 1), (1, 2), (2, 0)))
>>> dies_without(yard, 5, 6), dies_without(yard, 0, 1), grips(yard, 6), grips(yard, 5)
((6,), (), ((5, 6),), ())
>>> lots_ahead(yard, 5)
raises Unfit()
>>> part_of(yard, 7)
raises NoPlace(place=7)
"""

YARD = (3, ((0, (1,)), (1, (2,)), (0, (0, 3)), (2, (4,)), (2, ()), (1, (6,)), (1, ())), (5,))


def heaps_for_parts():
    return small_heaps()[::2] + some_heaps(60, 3, 6, 66)


def plain_foremost(heap):
    gone = lifeless(heap)
    return [part for part in all_dead_parts(heap)
            if not any(all_ahead(heap, one) & (gone - set(part)) for one in part)]


def plain_part_row(heap):
    """The least, place by place, of all rows of the dead parts that have each behind those ahead of it."""
    left, row = all_dead_parts(heap), []
    while left:
        free = [part for part in left
                if not any(other != part and other[0] in all_ahead(heap, part[0]) for other in left)]
        row.append(min(free))
        left.remove(min(free))
    return row


def plain_depth(heap, place):
    """By trying all rows of unlike parts, short ones too."""
    own = [part for part in all_parts(heap) if place in part][0]
    others = [part for part in all_parts(heap) if part != own]

    def holds(near, far):
        return any(tied(heap, one, other) for one in near for other in far)

    best = 1
    for size in range(1, len(others) + 1):
        for row in permutations(others, size):
            if all(holds(*pair) for pair in zip(row, row[1:] + (own,))):
                best = max(best, size + 1)
    return best


def ties_in(heap):
    return [(near, far) for near in members(heap) for far in heap[1][near][1]]


class PartsTest(TestCase):

    def test_examples(self):
        check_examples(self, EXAMPLES, {**vars(errors), **vars(module)})

    def test_parts(self):
        for heap in heaps_for_parts():
            found = all_parts(heap)
            self.assertEqual(parts(heap), found)
            self.assertEqual(dead_parts(heap), all_dead_parts(heap))
            for one in members(heap):
                self.assertEqual([part_of(heap, one)], [part for part in found if one in part])
            for some in subsets(members(heap)):
                self.assertIs(is_part(heap, some), some in found)

    def test_parts_of_great_heaps(self):
        for heap in great_heaps():
            for one in members(heap):
                near = all_ahead(heap, one)
                self.assertEqual(part_of(heap, one), as_set(other for other in near if one in all_ahead(heap, other)))
            self.assertEqual(parts(heap), sorted({part_of(heap, one) for one in members(heap)}))
            self.assertEqual(dead_parts(heap), [part for part in parts(heap) if part[0] in lifeless(heap)])

    def test_what_is_ahead(self):
        for heap in heaps_for_parts() + great_heaps():
            for far in members(heap):
                for near in members(heap):
                    self.assertIs(is_ahead(heap, near, far), near in all_ahead(heap, far))

    def test_foremost(self):
        for heap in heaps_for_parts():
            self.assertEqual(foremost(heap), plain_foremost(heap))
            self.assertEqual(foremost(heap) == [], lifeless(heap) == set())

    def test_part_row(self):
        for heap in heaps_for_parts():
            row = plain_part_row(heap)
            self.assertEqual(part_row(heap), row)
            pairs = {(i, j) for i, near in enumerate(row) for j, far in enumerate(row)
                     if i != j and any(tied(heap, one, other) for one in near for other in far)}
            self.assertEqual(part_ties(heap), as_set(pairs))
            self.assertTrue(all(i < j for i, j in pairs))

    def test_part_depth(self):
        for heap in heaps_for_parts():
            for one in members(heap):
                self.assertEqual(part_depth(heap, one), plain_depth(heap, one))
        self.assertEqual([part_depth(chain_heap(6, 12, ()), one) for one in range(12)], list(range(1, 13)))
        self.assertEqual(part_depth(ring_of_rings(), 5), 1)

    def test_lots_ahead(self):
        for heap in heaps_for_parts():
            for one in members(heap):
                if one in alive(heap):
                    self.assertRaises(Unfit, lots_ahead, heap, one)
                    continue
                near = [part for part in plain_part_row(heap) if part[0] in all_ahead(heap, one)]
                self.assertIn(one, near[-1])
                self.assertEqual(lots_ahead(heap, one), [areas(heap, part) for part in near])

    def test_without_a_tie(self):
        for heap in heaps_for_parts()[::3] + [ring_of_rings()]:
            whole = all_parts(heap) if len(heap[1]) < 12 else parts(heap)
            joined = []
            for near, far in ties_in(heap):
                less = without(heap, near, far)
                fresh = [part for part in parts(less) if part not in whole]
                self.assertEqual(parts_without(heap, near, far), fresh)
                self.assertEqual(dies_without(heap, near, far), as_set(alive(heap) - alive(less)))
                joined += [(near, far)] if fresh else []
                for part in fresh:
                    self.assertEqual(len([own for own in whole if set(part) <= set(own)]), 1)
                self.assertLessEqual(lifeless(heap), lifeless(less))
            self.assertEqual(joints(heap), tuple(joined))

    def test_grips(self):
        for heap in heaps_for_parts()[::2] + great_heaps():
            for one in members(heap):
                if one not in alive(heap):
                    self.assertRaises(Unfit, grips, heap, one)
                    continue
                wanted = [tie for tie in ties_in(heap) if one not in alive(without(heap, *tie))]
                self.assertEqual(grips(heap, one), tuple(wanted))

    def test_rings_of_rings(self):
        self.assertEqual(parts(ring_of_rings()), [tuple(range(12))])
        self.assertEqual(len(joints(ring_of_rings())), 16)
        self.assertEqual(joints(full_heap(2, 3, ())), ())
        self.assertEqual(parts_without(ring((0,)), 0, 0), [])

    def test_no_object(self):
        for call in (parts, dead_parts, foremost, part_row):
            self.assertEqual(call((1, (), ())), [])
        for call in (part_ties, joints):
            self.assertEqual(call((1, (), ())), ())
        self.assertIs(is_part((1, (), ()), ()), False)

    def test_is_part_judges_things(self):
        for heap in (YARD, full_heap(1, 2, ()), ring_of_rings()):
            for good in parts(heap):
                for bad in spoilt(good):
                    self.assertIs(is_part(heap, bad), False, bad)
            for bad in NOTHINGS:
                self.assertIs(is_part(heap, bad), False, bad)
        self.assertIs(is_part(YARD, tuple(range(3000))), False)

    def test_checks_in_their_order(self):
        heap = ring((0, 1, 0), (0,))
        for call, place in (((part_of, heap, -1), -1), ((is_ahead, heap, 7, 8), 7), ((is_ahead, heap, 0, -8), -8),
                            ((part_depth, heap, 3), 3), ((lots_ahead, heap, 3), 3), ((lots_ahead, heap, -3), -3),
                            ((parts_without, heap, 3, -1), 3), ((parts_without, heap, 0, -1), -1),
                            ((dies_without, heap, -1, 0), -1), ((dies_without, heap, 0, 5), 5), ((grips, heap, 3), 3)):
            with self.assertRaises(NoPlace) as caught:
                call[0](*call[1:])
            self.assertEqual(caught.exception.place, place, call[0])
        self.assertRaises(Unfit, parts_without, heap, 0, 2)
        self.assertRaises(Unfit, dies_without, heap, 0, 0)

    def test_what_holds_for_every_call(self):
        for heap in [YARD, (1, (), ())] + small_heaps()[::60] + great_heaps()[::4]:
            for function in (parts, dead_parts, foremost, part_row):
                check_call(self, function, (heap,), "list")
            for function in (part_ties, joints):
                check_call(self, function, (heap,), "set")
            check_call(self, is_part, (heap, (0,)), "bool")
            for one in (0, 1, len(heap[1]) - 1, len(heap[1])):
                check_call(self, part_of, (heap, one), "set")
                check_call(self, part_depth, (heap, one), "int")
                check_call(self, lots_ahead, (heap, one), "list")
                check_call(self, grips, (heap, one), "set")
                for other in (0, 1, 2):
                    check_call(self, is_ahead, (heap, one, other), "bool")
                    check_call(self, parts_without, (heap, one, other), "list")
                    check_call(self, dies_without, (heap, one, other), "set")
