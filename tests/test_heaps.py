"""Section 4: heaps."""

from itertools import product
from unittest import TestCase

from gatheryard import errors, heaps
from gatheryard.errors import CanNot, NoPlace, Unfit
from gatheryard.heaps import (ahead_of, areas_of, come_to, cut_to, dead, dead_heap, holders, is_heap, is_lot, is_way,
                              live, relaid, sight, way)
from tests.checks import NOTHINGS, check_call, check_examples, check_things, deep
from tests.makers import great_heaps, ring, ring_of_rings, small_heaps, some_heaps, subsets
from tests.plain import alive, all_ahead, areas, as_set, come_to_from, lifeless, members, tied

EXAMPLES = """
>>> heap = (2, ((0, (1,)), (1, (0,)), (0, (2, 3)), (1, ())), (3,))
>>> live(heap), dead(heap), come_to(heap, (0,)), ahead_of(heap, 3), holders(heap, 3), sight(heap, 3), sight(heap, 2)
((3,), (0, 1, 2), (0, 1), (2, 3), (2,), (0, 1), (0,))
>>> way(heap, (0, 2), 3), is_way(heap, (0, 2), 3, (2, 2, 3)), areas_of(heap, (1, 3)), areas_of(heap, ())
((2, 3), True, (1,), ())
>>> cut_to(heap, (2, 3)), dead_heap(heap)
((2, ((0, (0, 1)), (1, ())), (1,)), (2, ((0, (1,)), (1, (0,)), (0, (2,))), ()))
>>> relaid(heap, (1, 1, 0, 0))[1], is_lot((0, 1), 2), is_lot((1, 0), 2), is_heap((2, ((0, (1,)),), ()))
(((1, (1,)), (1, (0,)), (0, (2, 3)), (0, ())), True, False, False)
>>> way(heap, (0,), 3)
raises CanNot()
>>> holders(heap, 4)
raises NoPlace(place=4)
"""


def plain_cut(heap, some):
    """cut_to by the document: who is left is numbered by how many of them are less."""
    def number(one):
        return len([other for other in some if other < one])

    objects = tuple((heap[1][one][0], tuple(number(far) for far in some if tied(heap, one, far))) for one in some)
    return (heap[0], objects, tuple(number(one) for one in some if one in heap[2]))


def plain_way(heap, starts, one):
    """The first way of all rows of objects, short ones first, ascending."""
    for length in range(1, len(heap[1]) + 1):
        for row in product(members(heap), repeat=length):
            if row[0] in starts and row[-1] == one and all(tied(heap, *pair) for pair in zip(row, row[1:])):
                return row
    return None


def some_starts(heap):
    many = len(heap[1])
    return [own for own in subsets(range(many)) if len(own) <= 2 or len(own) == many][:12]


class HeapsTest(TestCase):

    def test_examples(self):
        check_examples(self, EXAMPLES, {**vars(errors), **vars(heaps)})

    def test_live_and_dead(self):
        for heap in small_heaps() + great_heaps():
            self.assertEqual(live(heap), as_set(alive(heap)))
            self.assertEqual(dead(heap), as_set(lifeless(heap)))
            self.assertEqual(dead_heap(heap), plain_cut(heap, as_set(lifeless(heap))))

    def test_what_is_come_to_and_what_is_ahead(self):
        for heap in small_heaps() + great_heaps():
            for starts in some_starts(heap):
                self.assertEqual(come_to(heap, starts), as_set(come_to_from(heap, starts)))
                self.assertEqual(areas_of(heap, starts), areas(heap, starts))
                self.assertEqual(cut_to(heap, starts), plain_cut(heap, starts))
            for one in members(heap):
                near = [other for other in members(heap) if tied(heap, other, one)]
                self.assertEqual(ahead_of(heap, one), as_set(all_ahead(heap, one)))
                self.assertEqual(holders(heap, one), tuple(near))
                self.assertEqual(sight(heap, one), areas(heap, near + [one]))

    def test_ways(self):
        for heap in small_heaps():
            for starts in some_starts(heap):
                for one in members(heap):
                    found = plain_way(heap, starts, one)
                    if found is None:
                        self.assertRaises(CanNot, way, heap, starts, one)
                    else:
                        self.assertEqual(way(heap, starts, one), found)
                        self.assertIs(is_way(heap, starts, one, found), True)

    def test_ways_through_great_heaps(self):
        for heap in great_heaps():
            for starts in ((0,), (3, 7), tuple(range(12))):
                reached = come_to_from(heap, starts)
                for one in members(heap):
                    if one in reached:
                        self.assertIs(is_way(heap, starts, one, way(heap, starts, one)), True)
                    else:
                        self.assertRaises(CanNot, way, heap, starts, one)
        self.assertEqual(way(ring_of_rings(), (0,), 11), (0, 3, 6, 9, 10, 11))

    def test_no_way_from_nowhere(self):
        self.assertRaises(CanNot, way, ring((0, 1)), (), 0)
        self.assertIs(is_way(ring((0, 1)), (), 0, (0,)), False)

    def test_is_way_of_all_short_tuples(self):
        for heap in small_heaps()[::5]:
            rows = [row for length in range(4) for row in product(range(-1, len(heap[1]) + 1), repeat=length)]
            for starts in some_starts(heap)[:4]:
                for one in members(heap):
                    for row in rows:
                        good = (len(row) > 0 and all(0 <= own < len(heap[1]) for own in row) and row[0] in starts
                                and row[-1] == one and all(tied(heap, *pair) for pair in zip(row, row[1:])))
                        self.assertIs(is_way(heap, starts, one, row), good)

    def test_is_way_judges_things(self):
        heap = (1, ((0, (1,)), (0, (0, 1))), ())
        goods = [(0,), (1, 0), (0, 1, 0), (0, 1, 1, 0), (1,) * 50 + (0,)]
        check_things(self, lambda thing: is_way(heap, (0, 1), 0, thing), goods)
        heap = (1, ((0, (0, 1)), (0, (0, 1))), ())
        self.assertIs(is_way(heap, (0, 1), 0, (0,) * 5000), True)
        self.assertIs(is_way(heap, (0, 1), 0, (0,) * 4000 + (True,) + (0,) * 999), False)

    def test_relaid(self):
        for heap in some_heaps(60, 4, 6, 3):
            places = tuple([(area + 1) % heap[0] for area, _ in heap[1]])
            objects = tuple([(area, ties) for area, (_, ties) in zip(places, heap[1])])
            self.assertEqual(relaid(heap, places), (heap[0], objects, heap[2]))
            for wrong in (places + (0,), places[1:] if places else (0,), places[:-1] + (heap[0],), places[:-1] + (-1,)):
                self.assertRaises(Unfit, relaid, heap, wrong)

    def test_is_lot(self):
        for m in range(-2, 4):
            for lot in [row for size in range(4) for row in product(range(-1, 4), repeat=size)]:
                good = len(lot) > 0 and all(0 <= area < m for area in lot) and list(lot) == sorted(set(lot))
                self.assertIs(is_lot(lot, m), good, (lot, m))
        check_things(self, lambda thing: is_lot(thing, 3), [(0,), (2,), (0, 1), (0, 1, 2)])
        for bad in NOTHINGS:
            for m in (0, -1, -10 ** 30, 1, 2, 10 ** 30):
                self.assertIs(is_lot(bad, m), False, bad)

    def test_great_lots(self):
        self.assertIs(is_lot(tuple(range(20000)), 20000), True)
        self.assertIs(is_lot(tuple(range(20000)), 19999), False)
        self.assertIs(is_lot((5, 10 ** 50), 10 ** 50 + 1), True)
        self.assertIs(is_lot((5, 10 ** 50), 10 ** 50), False)

    def test_is_heap(self):
        for heap in small_heaps()[::7] + great_heaps():
            self.assertIs(is_heap(heap), True)
        goods = [(1, (), ()), (2, ((0, (0, 1)), (1, ())), (0,)), ring((0, 1, 2), (1,)), (10 ** 40, ((10 ** 39, ()),), ())]
        check_things(self, is_heap, goods)

    def test_wrong_heaps(self):
        for bad in ((0, (), ()), (-1, (), ()), (1, ((1, ()),), ()), (1, ((-1, ()),), ()), (1, ((0, (1,)),), ()),
                    (1, ((0, ()),), (1,)), (1, ((0, ()),), (-1,)), (1, ((0, ()), (0, ())), (1, 0)), (1, ((0,),), ()),
                    (1, ((0, (0, 0)), (0, ())), ()), (1, ((0, (1, 0)), (0, ())), ()), (1, ((0, (), ()),), ()),
                    (1, (0, ()), ()), (1, ((),), ()), (1, (None,), ()), (1, ((0, None),), ()), (1, ("00",), ()),
                    (1, ((0, 0),), ()), (2, ((0, ()), (1, ())), (0, 0)), deep(100)):
            self.assertIs(is_heap(bad), False, bad)

    def test_heaps_beyond_the_bounds(self):
        many = 3000
        long = (40, tuple([(one % 40, ((one + 1) % many,)) for one in range(many)]), (0, many - 1))
        self.assertIs(is_heap(long), True)
        self.assertIs(is_heap(long[:2] + ((0, many),)), False)
        self.assertIs(is_heap((40, long[1][:-1] + ((3, (many,)),), ())), False)
        self.assertEqual(live(long), tuple(range(many)))
        self.assertEqual(len(way(long, (5,), 4)), many)

    def test_objects_that_are_not_there(self):
        heap = ring((0, 1, 0))
        for call, place in (((come_to, heap, (0, 3, 4)), 3), ((come_to, heap, (-1, 5)), -1), ((ahead_of, heap, 3), 3),
                            ((holders, heap, -1), -1), ((sight, heap, 9), 9), ((areas_of, heap, (2, 3)), 3),
                            ((way, heap, (4,), 5), 4), ((way, heap, (), 5), 5), ((is_way, heap, (-2, 7), 9, None), -2),
                            ((is_way, heap, (0,), 9, None), 9), ((is_way, heap, (0,), -1, ()), -1),
                            ((cut_to, heap, (-5, 8)), -5), ((cut_to, (1, (), ()), (0,)), 0)):
            with self.assertRaises(NoPlace) as caught:
                call[0](*call[1:])
            self.assertEqual(caught.exception.place, place, call[0])

    def test_what_holds_for_every_call(self):
        for heap in small_heaps()[::40] + great_heaps()[::5]:
            for function in (live, dead):
                check_call(self, function, (heap,), "set")
            check_call(self, dead_heap, (heap,), "tuple")
            check_call(self, is_heap, (heap,), "bool")
            check_call(self, is_lot, ((0, heap[0]), heap[0] + 1), "bool")
            check_call(self, relaid, (heap, tuple([0 for _ in heap[1]])), "tuple")
            check_call(self, relaid, (heap, (0,) * 13), "tuple")
            for one in (0, len(heap[1])):
                for function in (ahead_of, holders, sight):
                    check_call(self, function, (heap, one), "set")
                for starts in ((0,), (), (0, 99)):
                    for function in (come_to, areas_of):
                        check_call(self, function, (heap, starts), "set")
                    check_call(self, cut_to, (heap, starts), "tuple")
                    check_call(self, way, (heap, starts, one), "tuple")
                    check_call(self, is_way, (heap, starts, one, (0,)), "bool")
