"""Section 8: sweeps."""

from itertools import permutations
from unittest import TestCase

from gatheryard import errors, heaps, sweeps
from gatheryard.errors import CanNot, NoPlace, Unfit
from gatheryard.sweeps import (freed, hold_of, is_hold, is_shut, keepers, kept, kept_dead, numbers_behind, shut_of,
                               swept)
from tests.checks import NOTHINGS, check_call, check_examples, spoilt
from tests.makers import great_heaps, lots, ring, ring_of_rings, small_heaps, some_heaps, subsets
from tests.plain import alive, all_ahead, as_set, freed_in, inside, kept_in, lifeless, members, tied
from tests.test_heaps import plain_cut

EXAMPLES = """
>>> court = (3, ((0, (1,)), (1, ()), (1, (3,)), (1, ()), (0, (5,)), (1, (4, 6)), (2, ())), (0,))
>>> kept(court, (1,)), freed(court, (1,)), kept(court, (1, 2)), kept_dead(court, (1, 2)), freed(court, (0, 1))
((1, 5), (2, 3), (1, 5, 6), (5, 6), (2, 3, 4, 5))
>>> hold_of(court, (1, 2), 6), hold_of(court, (0, 1), 0), is_hold(court, (1, 2), 6, (5, 6)), shut_of(court, (1,), 3), is_shut(court, (0, 1), 5, (2, 4, 5))
((4, 5, 6), (0,), False, (2, 3), True)
>>> keepers(court, (1, 2), 6), swept(court, (1,)), numbers_behind(court, (1,))
((4,), (3, ((0, (1,)), (1, ()), (0, (3,)), (1, (2, 4)), (2, ())), (0,)), (0, 1, None, None, 2, 3, 4))
>>> hold_of(court, (1,), 2)
raises CanNot()
>>> keepers(court, (1,), 4)
raises Unfit()
>>> kept(court, (1, 3))
raises NoPlace(place=3)
"""

COURT = (3, ((0, (1,)), (1, ()), (1, (3,)), (1, ()), (0, (5,)), (1, (4, 6)), (2, ())), (0,))


def heaps_for_sweeps():
    return small_heaps()[::2] + some_heaps(40, 4, 5, 88)


def holds(heap, lot, one, row):
    """Whether row, a tuple of objects, none twice, is a HOLD of one."""
    there = inside(heap, lot)
    return (row[-1] == one and all(tied(heap, *pair) for pair in zip(row, row[1:])) and set(row[1:]) <= there
            and (row[0] not in there or row[0] in heap[2]))


def all_holds(heap, lot, one):
    """All HOLDS, short ones first, those of one length ascending."""
    rows = [row for length in range(1, len(heap[1]) + 1) for row in permutations(members(heap), length)]
    return [row for row in rows if holds(heap, lot, one, row)]


def all_shuts(heap, lot, one):
    there = inside(heap, lot) - set(heap[2])
    return [own for own in subsets(there) if one in own
            and all(near in own for far in own for near in members(heap) if tied(heap, near, far))]


class SweepsTest(TestCase):

    def test_examples(self):
        check_examples(self, EXAMPLES, {**vars(errors), **vars(heaps), **vars(sweeps)})

    def test_kept_and_freed(self):
        for heap in heaps_for_sweeps() + great_heaps():
            for lot in lots(heap[0]):
                self.assertEqual(kept(heap, lot), as_set(kept_in(heap, lot)))
                self.assertEqual(freed(heap, lot), as_set(freed_in(heap, lot)))
                self.assertEqual(kept_dead(heap, lot), as_set(kept_in(heap, lot) & lifeless(heap)))

    def test_guarantees(self):
        for heap in heaps_for_sweeps()[::2] + great_heaps():
            for lot in lots(heap[0]):
                there = inside(heap, lot)
                gone = set(freed(heap, lot))
                self.assertEqual(gone, {one for one in there & lifeless(heap) if all_ahead(heap, one) <= there})
                self.assertFalse(gone & alive(heap))
                for near in members(heap):
                    if gone & set(heap[1][near][1]):
                        self.assertIn(near, gone)
                for area in set(range(heap[0])) - set(lot):
                    self.assertLessEqual(gone, set(freed(heap, tuple(sorted(lot + (area,))))))

    def test_holds_and_shuts_by_trying_all(self):
        for heap in heaps_for_sweeps()[::3]:
            for lot in lots(heap[0]):
                keep = kept_in(heap, lot)
                for one in inside(heap, lot):
                    rows, closed = all_holds(heap, lot, one), all_shuts(heap, lot, one)
                    self.assertEqual((rows != [], closed == []), (one in keep, one in keep))
                    if rows:
                        self.assertEqual(hold_of(heap, lot, one), rows[0])
                        self.assertRaises(CanNot, shut_of, heap, lot, one)
                    else:
                        self.assertRaises(CanNot, hold_of, heap, lot, one)
                        least = shut_of(heap, lot, one)
                        self.assertIn(least, closed)
                        self.assertTrue(all(set(least) <= set(own) for own in closed))
                    for own in subsets(members(heap)):
                        self.assertIs(is_shut(heap, lot, one, own), own in closed)

    def test_is_hold_by_trying_all(self):
        for heap in heaps_for_sweeps()[::9]:
            rows = [row for length in range(1, len(heap[1]) + 1) for row in permutations(members(heap), length)]
            for lot in lots(heap[0]):
                for one in inside(heap, lot):
                    for row in rows:
                        self.assertIs(is_hold(heap, lot, one, row), holds(heap, lot, one, row))

    def test_holds_and_shuts_of_great_heaps(self):
        for heap in great_heaps()[::2]:
            for lot in lots(heap[0])[::7]:
                for one in inside(heap, lot):
                    if one in kept_in(heap, lot):
                        self.assertIs(is_hold(heap, lot, one, hold_of(heap, lot, one)), True)
                    else:
                        self.assertEqual(shut_of(heap, lot, one), as_set(all_ahead(heap, one)))
                        self.assertIs(is_shut(heap, lot, one, shut_of(heap, lot, one)), True)

    def test_keepers(self):
        for heap in heaps_for_sweeps()[::2] + great_heaps():
            for lot in lots(heap[0])[:20]:
                there = inside(heap, lot)
                for one in there:
                    wanted = {near for near in all_ahead(heap, one) if near not in there or near in heap[2]}
                    self.assertEqual(keepers(heap, lot, one), as_set(wanted))
                    self.assertEqual(wanted == set(), one in freed_in(heap, lot))

    def test_swept(self):
        for heap in heaps_for_sweeps()[::2] + great_heaps():
            for lot in lots(heap[0])[:20]:
                left = as_set(set(members(heap)) - freed_in(heap, lot))
                self.assertEqual(swept(heap, lot), plain_cut(heap, left))
                numbers = tuple(left.index(one) if one in left else None for one in members(heap))
                self.assertEqual(numbers_behind(heap, lot), numbers)

    def test_all_dead_or_none(self):
        self.assertEqual(freed(ring_of_rings(), tuple(range(6))), tuple(range(12)))
        self.assertEqual(freed(ring_of_rings(), tuple(range(5))), ())
        self.assertEqual(swept(ring((0, 1)), (0, 1)), (2, (), ()))
        self.assertEqual((kept((1, (), ()), (0,)), freed((1, (), ()), (0,))), ((), ()))

    def test_is_hold_and_is_shut_judge_things(self):
        heap = (2, ((0, (1,)), (0, (0, 2)), (1, (2,))), (1,))
        for good in ((1, 0), ):
            self.assertIs(is_hold(heap, (0,), 0, good), True)
            for bad in spoilt(good):
                self.assertIs(is_hold(heap, (0,), 0, bad), False, bad)
        for bad in NOTHINGS + ((1, 0, 1, 0), (0, 1, 0), (0,), (), (1,), (1, 3), (3, 0), (-2, 0)):
            if bad != (1, 0):
                self.assertIs(is_hold(heap, (0,), 0, bad), False, bad)
        pair = ring((0, 0, 1))
        for bad in tuple(spoilt((0, 1, 2))) + NOTHINGS + ((0, 1), (2,), (0, 2, 1), (), (0, 1, 2, 3)):
            self.assertIs(is_shut(pair, (0, 1), 0, bad), False, bad)
        self.assertIs(is_shut(pair, (0, 1), 0, (0, 1, 2)), True)

    def test_a_hold_has_none_twice(self):
        heap = (2, ((0, (0, 1)), (1, (0,))), (0,))
        self.assertIs(is_hold(heap, (0, 1), 0, (0,)), True)
        self.assertIs(is_hold(heap, (0, 1), 0, (0, 0)), False)
        self.assertIs(is_hold(heap, (0,), 0, (1, 0)), True)
        self.assertIs(is_hold(heap, (0, 1), 1, (0, 1)), True)

    def test_checks_in_their_order(self):
        calls = [hold_of, shut_of, keepers, lambda *own: is_hold(*own, None), lambda *own: is_shut(*own, None)]
        for call in calls:
            for lot, one, place in (((1, 3, 4), 99, 3), ((-1, 0), -5, -1), ((1,), 7, 7), ((1,), -1, -1)):
                with self.assertRaises(NoPlace) as caught:
                    call(COURT, lot, one)
                self.assertEqual(caught.exception.place, place)
            self.assertRaises(Unfit, call, COURT, (1,), 4)
        for call in (kept, freed, kept_dead, swept, numbers_behind):
            with self.assertRaises(NoPlace) as caught:
                call(COURT, (0, 5, 9))
            self.assertEqual(caught.exception.place, 5)

    def test_what_holds_for_every_call(self):
        for heap in [COURT, (1, (), ())] + small_heaps()[::60] + great_heaps()[::4]:
            for lot in lots(heap[0])[::9] + [(0, heap[0])]:
                for function in (kept, freed, kept_dead):
                    check_call(self, function, (heap, lot), "set")
                for function in (swept, numbers_behind):
                    check_call(self, function, (heap, lot), "tuple")
                for one in range(len(heap[1]) + 1):
                    check_call(self, hold_of, (heap, lot, one), "tuple")
                    check_call(self, shut_of, (heap, lot, one), "set")
                    check_call(self, keepers, (heap, lot, one), "set")
                    check_call(self, is_hold, (heap, lot, one, (one,)), "bool")
                    check_call(self, is_shut, (heap, lot, one, (one,)), "bool")
