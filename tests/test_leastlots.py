"""Section 9: least lots."""

from unittest import TestCase

from gatheryard import errors, leastlots
from gatheryard.errors import CanNot, NoPlace
from gatheryard.leastlots import (beyond, freed_too, lot_for, most_freed, narrowest, need_of, needs, tight_lots,
                                  tight_within)
from tests.checks import check_call, check_examples
from tests.makers import chain_heap, great_heaps, lots, ring_of_rings, small_heaps, some_heaps, subsets
from tests.plain import alive, all_ahead, all_dead_parts, areas, as_set, freed_in, lifeless, members
from tests.test_sweeps import COURT

EXAMPLES = """
>>> court = (3, ((0, (1,)), (1, ()), (1, (3,)), (1, ()), (0, (5,)), (1, (4, 6)), (2, ())), (0,))
>>> need_of(court, 4), needs(court), lot_for(court, (2, 5)), freed_too(court, 4), tight_lots(court)
((0, 1), (None, None, (1,), (1,), (0, 1), (0, 1), (0, 1, 2)), (0, 1), (2, 3, 4, 5), [(0, 1), (0, 1, 2), (1,)])
>>> tight_within(court, (1, 2)), tight_within(court, (0, 2)), narrowest(court), beyond(court, 1), most_freed(court, 2), most_freed(court, 0)
((1,), (), [(1,)], (4, 5, 6), (4, (0, 1)), (0, ()))
>>> need_of(court, 1)
raises CanNot()
>>> lot_for(court, (2, 7))
raises NoPlace(place=7)
"""


def heaps_for_needs():
    return small_heaps()[::2] + some_heaps(60, 4, 6, 99) + great_heaps()[::2]


def freed_by_all(heap):
    """What each LOT frees."""
    return {lot: freed_in(heap, lot) for lot in lots(heap[0])}


def tight(found, lot):
    """Whether each area of lot counts."""
    less = [tuple([own for own in lot if own != area]) for area in lot]
    return found[lot] != set() and all(len(found.get(own, ())) < len(found[lot]) for own in less)


class LeastLotsTest(TestCase):

    def test_examples(self):
        check_examples(self, EXAMPLES, {**vars(errors), **vars(leastlots)})

    def test_needs(self):
        for heap in heaps_for_needs():
            wanted = []
            for one in members(heap):
                wanted.append(areas(heap, all_ahead(heap, one)) if one in lifeless(heap) else None)
                if one in alive(heap):
                    self.assertRaises(CanNot, need_of, heap, one)
                    self.assertRaises(CanNot, freed_too, heap, one)
                else:
                    self.assertEqual(need_of(heap, one), wanted[-1])
            self.assertEqual(needs(heap), tuple(wanted))

    def test_needs_by_all_lots(self):
        for heap in heaps_for_needs():
            found = freed_by_all(heap)
            for one in lifeless(heap):
                good = [lot for lot in found if one in found[lot]]
                for lot in found:
                    self.assertEqual(lot in good, set(need_of(heap, one)) <= set(lot))
                both = set.intersection(*[found[lot] for lot in good])
                self.assertEqual(freed_too(heap, one), as_set(both))
            for part in all_dead_parts(heap) if len(heap[1]) < 8 else []:
                self.assertEqual(len({needs(heap)[one] for one in part}), 1)

    def test_lot_for(self):
        for heap in heaps_for_needs():
            found = freed_by_all(heap)
            for some in [own for own in subsets(members(heap)) if 0 < len(own) < 4][:40]:
                good = [lot for lot in found if set(some) <= found[lot]]
                if not good:
                    self.assertRaises(CanNot, lot_for, heap, some)
                    continue
                least = lot_for(heap, some)
                self.assertIn(least, good)
                self.assertTrue(all(set(least) <= set(lot) for lot in good))

    def test_tight_lots(self):
        for heap in heaps_for_needs():
            found = freed_by_all(heap)
            wanted = sorted(lot for lot in found if tight(found, lot))
            self.assertEqual(tight_lots(heap), wanted)
            for lot in found:
                own = [other for other in wanted if set(other) <= set(lot)]
                inner = tight_within(heap, lot)
                if found[lot]:
                    self.assertIn(inner, own)
                    self.assertTrue(all(set(other) <= set(inner) for other in own))
                    self.assertEqual(found[inner], found[lot])
                else:
                    self.assertEqual((inner, own), ((), []))

    def test_narrowest(self):
        for heap in heaps_for_needs():
            found = freed_by_all(heap)
            sizes = [len(lot) for lot in found if found[lot]]
            wanted = sorted(lot for lot in found if found[lot] and len(lot) == min(sizes))
            self.assertEqual(narrowest(heap), wanted)

    def test_beyond_and_most_freed(self):
        for heap in heaps_for_needs():
            found = freed_by_all(heap)
            for many in range(heap[0] + 2):
                fit = [lot for lot in found if len(lot) <= many]
                reached = set().union(*[found[lot] for lot in fit])
                self.assertEqual(beyond(heap, many), as_set(lifeless(heap) - reached))
                most = max([len(found[lot]) for lot in fit], default=0)
                if most == 0:
                    self.assertEqual(most_freed(heap, many), (0, ()))
                else:
                    best = min([(len(lot), lot) for lot in fit if len(found[lot]) == most])
                    self.assertEqual(most_freed(heap, many), (most, best[1]))

    def test_none_dead_and_all_dead(self):
        for heap in ((1, (), ()), (2, ((0, ()), (1, (1,))), (0, 1))):
            self.assertEqual((tight_lots(heap), narrowest(heap), beyond(heap, 0)), ([], [], ()))
            self.assertEqual((most_freed(heap, 9), tight_within(heap, (0,))), ((0, ()), ()))
        self.assertEqual(tight_lots(ring_of_rings()), [(0, 1, 2, 3, 4, 5)])
        self.assertEqual(len(tight_lots((6, tuple([(one % 6, ()) for one in range(12)]), ()))), 63)
        self.assertEqual(narrowest(chain_heap(6, 12, ())), [(0,)])

    def test_checks_in_their_order(self):
        for call, place in (((need_of, COURT, 7), 7), ((need_of, COURT, -1), -1), ((freed_too, COURT, 8), 8),
                            ((lot_for, COURT, (0, 7, 9)), 7), ((lot_for, COURT, (-1, 1)), -1),
                            ((tight_within, COURT, (0, 3, 4)), 3), ((tight_within, COURT, (-1, 4)), -1)):
            with self.assertRaises(NoPlace) as caught:
                call[0](*call[1:])
            self.assertEqual(caught.exception.place, place, call[0])
        self.assertRaises(CanNot, lot_for, COURT, (0, 2))

    def test_what_holds_for_every_call(self):
        for heap in [COURT, (1, (), ())] + small_heaps()[::60] + great_heaps()[::4]:
            check_call(self, needs, (heap,), "tuple")
            check_call(self, tight_lots, (heap,), "list")
            check_call(self, narrowest, (heap,), "list")
            for lot in lots(heap[0])[::9] + [(0, heap[0])]:
                check_call(self, tight_within, (heap, lot), "set")
            for one in (0, 2, len(heap[1])):
                check_call(self, need_of, (heap, one), "set")
                check_call(self, freed_too, (heap, one), "set")
                check_call(self, lot_for, (heap, (one,)), "set")
                check_call(self, beyond, (heap, one), "set")
                check_call(self, most_freed, (heap, one), "tuple")
