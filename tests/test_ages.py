"""Section 23: areas as ages."""

from random import Random
from unittest import TestCase

from gatheryard import ages, errors
from gatheryard.ages import (aged, aged_by, alike_aged, burden, burden_tally, freed_places, parting_age, till_gone,
                             young_kept)
from gatheryard.errors import CanNot, NoPlace, Unfit
from gatheryard.heaps import is_heap
from tests.checks import check_call, check_examples, outcome
from tests.makers import full_heap, great_heaps, random_heap, ring, small_heaps, some_heaps
from tests.plain import all_ahead, alive, freed_in, heap_of_stand, kept_in, left_at, lifeless, members, older

EXAMPLES = """
>>> old = (3, ((2, (1,)), (0, (2,)), (0, ()), (1, ()), (0, ())), (4,))
>>> [burden(old, one) for one in (0, 1, 2, 3)], young_kept(old, 0), burden_tally(old)
([2, 2, 2, 1], (1, 2), (0, 1, 3))
>>> aged(old, 1)
(3, ((2, (1,)), (1, (2,)), (1, ()), (1, ())), (3,))
>>> freed_places(old, (0, 1, 2)), freed_places(old, (0, 1, 0))
((2, 2, 2, 1, None), (None, None, None, 1, None))
>>> till_gone(old, (0, 2)), till_gone(old, (1,)), parting_age(old, aged(old, 0)), parting_age(old, aged(old, 1))
(2, None, None, 1)
>>> burden(old, 4)
raises CanNot()
"""

OLD = (3, ((2, (1,)), (0, (2,)), (0, ()), (1, ()), (0, ())), (4,))


def burden_plainly(heap, one):
    return max(heap[1][near][0] for near in all_ahead(heap, one))


def played(heap, row):
    """The HEAPS behind 0, 1, .. small sweeps of row; and for each object of the first the place that frees it."""
    heaps, names, when = [heap], list(members(heap)), {}
    for place, age in enumerate(row):
        stand = older(heaps[-1], age)
        when.update({names[one]: place for one in members(heaps[-1]) if stand[one] is None})
        names = [names[one] for one in left_at(stand)]
        heaps.append(heap_of_stand(heaps[-1], stand))
    return heaps, tuple([when.get(one) for one in members(heap)])


def some_ages(random, m, most):
    return tuple([random.randrange(m) for _ in range(random.randint(0, most))])


def ageing_heaps(seed):
    return some_heaps(150, 5, 7, seed) + great_heaps() + [(1, (), ()), (6, (), ()), ring((0, 1, 2)), OLD]


class AgesTest(TestCase):

    def test_examples(self):
        check_examples(self, EXAMPLES, {**vars(errors), **vars(ages)})

    def test_burdens(self):
        for heap in ageing_heaps(251) + small_heaps()[::3]:
            gone, tally = lifeless(heap), [0] * heap[0]
            for one in members(heap):
                if one in gone:
                    self.assertEqual(burden(heap, one), burden_plainly(heap, one))
                    tally[burden_plainly(heap, one)] += 1
                else:
                    self.assertRaises(CanNot, burden, heap, one)
            self.assertEqual(burden_tally(heap), tuple(tally))

    def test_small_sweeps(self):
        for heap in ageing_heaps(252) + small_heaps()[::3]:
            for age in range(heap[0]):
                found = aged(heap, age)
                self.assertEqual(found, heap_of_stand(heap, older(heap, age)))
                self.assertIs(is_heap(found), True)
                young = tuple(range(age + 1))
                self.assertEqual(young_kept(heap, age), tuple(sorted(kept_in(heap, young) & lifeless(heap))))

    def test_rows_of_small_sweeps(self):
        random = Random(253)
        for heap in ageing_heaps(254):
            row = some_ages(random, heap[0], 7)
            heaps, when = played(heap, row)
            self.assertEqual(aged_by(heap, row), heaps)
            self.assertEqual(freed_places(heap, row), when)
            self.assertEqual(aged_by(heap, ()), [heap])

    def test_burdens_stay_till_they_are_swept(self):
        random = Random(255)
        for heap in ageing_heaps(256):
            row = some_ages(random, heap[0], 7)
            for age, before, behind in zip(row, played(heap, row)[0], played(heap, row)[0][1:]):
                left = [burden(before, one) for one in sorted(lifeless(before)) if burden(before, one) > age]
                self.assertEqual([burden(behind, one) for one in sorted(lifeless(behind))], left)

    def test_heaps_whose_burdens_are_alike_are_freed_alike(self):
        random = Random(257)
        alike = 0
        heaps = some_heaps(200, 3, 3, 258)
        for heap in heaps:
            others = [other for other in heaps if other[0] == heap[0]]
            for other in random.sample(others, 4) + [aged(heap, 0), heap]:
                rows = [(age,) for age in range(heap[0])] + [some_ages(random, heap[0], 6) for _ in range(4)]
                counts = [[[when.count(place) for place in range(len(row))] for when in
                           (played(own, row)[1] for own in (heap, other))] for row in rows]
                parted = [row[0] for row, (here, there) in zip(rows, counts) if len(row) == 1 and here != there]
                self.assertEqual(parting_age(heap, other), parted[0] if parted else None)
                self.assertIs(alike_aged(heap, other), parted == [])
                if parted == []:
                    self.assertTrue(all(here == there for here, there in counts))
                    alike += heap != other
        self.assertGreater(alike, 50)

    def test_how_long_till_all_is_gone(self):
        random = Random(259)
        for heap in ageing_heaps(260):
            row = some_ages(random, heap[0], 4) + (random.randrange(heap[0]),)
            many, there = 0, heap
            while lifeless(there) and many < 60:
                there = heap_of_stand(there, older(there, row[many % len(row)]))
                many += 1
            self.assertEqual(till_gone(heap, row), None if lifeless(there) else many)

    def test_smallest(self):
        none, one = (1, (), ()), (1, ((0, (0,)),), ())
        self.assertEqual((aged(none, 0), aged_by(none, (0, 0)), young_kept(none, 0)), (none, [none] * 3, ()))
        self.assertEqual((freed_places(none, (0,)), burden_tally(none), till_gone(none, (0,))), ((), (0,), 0))
        self.assertEqual((burden(one, 0), aged(one, 0), freed_places(one, ()), freed_places(one, (0, 0))),
                         (0, none, (None,), (0,)))
        self.assertEqual((till_gone(one, (0,)), burden_tally(one), parting_age(one, none)), (1, (1,), 0))
        self.assertEqual((alike_aged(none, none), parting_age(one, one), alike_aged(one, none)), (True, None, False))
        alone = (1, ((0, ()),), (0,))
        self.assertEqual((aged(alone, 0), till_gone(alone, (0,)), young_kept(alone, 0)), (alone, 0, ()))
        self.assertEqual((aged((2, ((1, ()),), (0,)), 1), aged((2, ((1, ()),), (0,)), 0)), ((2, ((1, ()),), (0,)),) * 2)

    def test_the_oldest_decides_however_young_the_others_are(self):
        heap = (6, tuple([(0 if one else 5, (one + 1,) if one < 11 else ()) for one in range(12)]), ())
        self.assertEqual([burden(heap, one) for one in range(12)], [5] * 12)
        self.assertEqual(till_gone(heap, (0, 1, 2, 3, 4)), None)
        self.assertEqual(till_gone(heap, (0, 1, 2, 3, 4, 5)), 6)
        self.assertEqual(burden_tally(full_heap(6, 12, ())), (0, 0, 0, 0, 0, 12))

    def test_places_that_are_not_there(self):
        for function, args, place in [
            (burden, (OLD, 5), 5), (burden, (OLD, -1), -1), (aged, (OLD, 3), 3), (aged, (OLD, -1), -1),
            (aged_by, (OLD, (0, 3, 7)), 3), (aged_by, (OLD, (-2, 3)), -2), (young_kept, (OLD, 3), 3),
            (young_kept, (OLD, 9), 9), (young_kept, (OLD, -1), -1), (aged, (OLD, 8), 8), (aged_by, (OLD, (7, 9)), 7),
            (freed_places, (OLD, (2, 1, 4)), 4), (till_gone, (OLD, (0, 9, 3)), 9), (till_gone, ((2, (), ()), (2,)), 2),
            (aged_by, ((1, (), ()), (0, 0, 1)), 1), (freed_places, ((1, (), ()), (1,)), 1),
        ]:
            with self.assertRaises(NoPlace) as caught:
                function(*args)
            self.assertEqual(caught.exception.place, place, (function, args))

    def test_live_objects_have_no_burden(self):
        self.assertRaises(CanNot, burden, OLD, 4)
        for heap in some_heaps(20, 3, 5, 261):
            for one in alive(heap):
                self.assertEqual(outcome(burden, heap, one), ("error", CanNot, {}))

    def test_heaps_of_other_areas_are_unfit(self):
        for heap, other in [(OLD, (2, (), ())), ((1, (), ()), (2, (), ())), ((4,) + OLD[1:], OLD)]:
            self.assertRaises(Unfit, alike_aged, heap, other)
            self.assertRaises(Unfit, parting_age, heap, other)

    def test_sweeps_free_what_a_sweep_of_these_ages_frees(self):
        for heap in great_heaps():
            for age in range(heap[0]):
                when = freed_places(heap, (age,))
                gone = {one for one in members(heap) if when[one] == 0}
                self.assertEqual(gone, freed_in(heap, tuple(range(age + 1))))

    def test_what_holds_for_every_call(self):
        random = Random(262)
        for heap in [OLD, (1, (), ()), full_heap(6, 12, ()), random_heap(random, 6, 12, 15, 10), ring((0, 1, 2))]:
            row = some_ages(random, heap[0], 5)
            for one in (0, 4, 99):
                check_call(self, burden, (heap, one), "int")
            for age in (0, heap[0] - 1, heap[0]):
                check_call(self, aged, (heap, age), "tuple")
                check_call(self, young_kept, (heap, age), "set")
                check_call(self, aged_by, (heap, row + (age,)), "list")
                check_call(self, freed_places, (heap, row + (age,)), "tuple")
                check_call(self, till_gone, (heap, row + (age,)), "int?")
            check_call(self, burden_tally, (heap,), "tuple")
            for other in (aged(heap, 0), OLD):
                check_call(self, alike_aged, (heap, other), "bool")
                check_call(self, parting_age, (heap, other), "int?")
