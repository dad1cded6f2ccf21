"""Section 10: rows of sweeps."""

from random import Random
from unittest import TestCase

from gatheryard import errors, rows
from gatheryard.errors import CanNot, NoPlace, Unfit
from gatheryard.parts import lots_ahead
from gatheryard.rows import (barring_part, freed_by_row, is_barring_part, is_freeing, is_row, least_row, many_needed,
                             row_frees)
from tests.checks import NOTHINGS, check_call, check_examples, check_things, spoilt
from tests.makers import chain_heap, great_heaps, lots, ring, ring_of_rings, small_heaps, some_heaps, subsets
from tests.plain import (alive, all_ahead, all_dead_parts, areas, is_freed_by, lifeless, members, row_of_freed,
                         rows_of)

EXAMPLES = """
>>> line, twins = (3, ((0, (1,)), (1, (2,)), (2, ()), (2, (1,))), ()), (2, ((0, (1,)), (1, (0,)), (0, (2, 3)), (1, ())), (3,))
>>> freed_by_row(line, ((1,), (0, 1), (1, 2))), row_frees(line, ((0,), (1, 2)), (1, 2)), row_frees(line, ((0,), (1,), (2,)), (2,))
(((), (0,), (1, 2, 3)), True, False)
>>> least_row(line, (2,), 1), least_row(line, (2,), 2), least_row(line, (2, 3), 3)
(((0,), (2,), (1,), (2,)), ((0, 1), (1, 2)), ((0, 1, 2),))
>>> many_needed(line, (2,)), many_needed(twins, (0, 2)), barring_part(twins, (0,), 1), is_freeing(twins, (2,), 1, ((0,),))
(1, 2, (0, 1), True)
>>> least_row(twins, (0,), 1)
raises CanNot()
>>> many_needed(twins, (0, 3))
raises Unfit()
"""

LINE = (3, ((0, (1,)), (1, (2,)), (2, ()), (2, (1,))), ())
TWINS = (2, ((0, (1,)), (1, (0,)), (0, (2, 3)), (1, ())), (3,))


def heaps_for_rows():
    return small_heaps()[::3] + some_heaps(60, 3, 5, 1010)


def goals(heap):
    """Some goals: sets, not (), of dead objects."""
    return [own for own in subsets(sorted(lifeless(heap))) if own][:12]


def some_row(random, m, length):
    return tuple([random.choice(lots(m)) for _ in range(length)])


def before(heap, goal):
    """The parts before goal, by trying all sets."""
    near = {one for own in goal for one in all_ahead(heap, own)}
    return [part for part in all_dead_parts(heap) if part[0] in near]


def plain_least_row(heap, goal, many):
    """The first of all ROWS of just many areas in each LOT, short ones first; None if as many as objects do not do."""
    for length in range(1, len(heap[1]) + 1):
        for row in rows_of(heap[0], many, length):
            if is_freed_by(heap, row, goal):
                return row
    return None


class RowsTest(TestCase):

    def test_examples(self):
        check_examples(self, EXAMPLES, {**vars(errors), **vars(rows)})

    def test_freed_by_row(self):
        random = Random(101)
        for heap in heaps_for_rows() + great_heaps():
            for length in (0, 1, 2, 5, 12):
                row = some_row(random, heap[0], length)
                self.assertEqual(freed_by_row(heap, row), tuple(row_of_freed(heap, row)))
                for goal in goals(heap):
                    good = is_freed_by(heap, row, goal)
                    self.assertIs(row_frees(heap, row, goal), good)
                    for many in range(1, heap[0] + 1):
                        narrow = good and all(len(lot) <= many for lot in row)
                        self.assertIs(is_freeing(heap, goal, many, row), narrow)

    def test_greater_lots_free_no_less(self):
        random = Random(102)
        for heap in heaps_for_rows()[::3]:
            row = some_row(random, heap[0], 3)
            wider = tuple([tuple(sorted({*lot, random.randrange(heap[0])})) for lot in row])
            less, more = set(), set()
            for one, other in zip(freed_by_row(heap, row), freed_by_row(heap, wider)):
                less, more = less | set(one), more | set(other)
                self.assertLessEqual(less, more)

    def test_parts_before(self):
        for heap in heaps_for_rows():
            for goal in goals(heap):
                near = before(heap, goal)
                sizes = [len(areas(heap, part)) for part in near]
                self.assertEqual(many_needed(heap, goal), max(sizes))
                for many in range(1, heap[0] + 1):
                    barring = [part for part, size in zip(near, sizes) if size > many]
                    if barring:
                        self.assertEqual(barring_part(heap, goal, many), barring[0])
                    else:
                        self.assertRaises(CanNot, barring_part, heap, goal, many)
                    for some in subsets(members(heap)):
                        self.assertIs(is_barring_part(heap, goal, many, some), some in barring)

    def test_least_row_by_trying_all(self):
        for heap in heaps_for_rows()[::2]:
            for goal in goals(heap)[::2]:
                for many in range(1, heap[0] + 1):
                    wanted = plain_least_row(heap, goal, many)
                    self.assertEqual(wanted is None, many < many_needed(heap, goal))
                    if wanted is None:
                        self.assertRaises(CanNot, least_row, heap, goal, many)
                    else:
                        self.assertEqual(least_row(heap, goal, many), wanted)

    def test_least_row_of_longer_lines(self):
        for heap, goal, many in ((LINE, (2,), 1), (chain_heap(2, 5, ()), (4,), 1), (chain_heap(3, 5, ()), (4,), 2)):
            self.assertEqual(least_row(heap, goal, many), plain_least_row(heap, goal, many))

    def test_great_heaps(self):
        for heap in great_heaps():
            gone = tuple(sorted(lifeless(heap)))
            if not gone:
                continue
            least = many_needed(heap, gone)
            for many in range(1, heap[0] + 1):
                if many < least:
                    self.assertRaises(CanNot, least_row, heap, gone, many)
                else:
                    row = least_row(heap, gone, many)
                    self.assertTrue(is_freed_by(heap, row, gone))
                    self.assertIs(is_freeing(heap, gone, many, row), True)
                    self.assertIs(row_frees(heap, row[:-1], gone), False)
                    self.assertEqual({len(lot) for lot in row}, {many})

    def test_lots_ahead_are_a_row(self):
        for heap in heaps_for_rows() + great_heaps():
            for one in lifeless(heap):
                row = tuple(lots_ahead(heap, one))
                self.assertIs(row_frees(heap, row, (one,)), True)
                self.assertIs(is_freeing(heap, (one,), many_needed(heap, (one,)), row), True)

    def test_all_at_once(self):
        heap = ring_of_rings()
        self.assertEqual(least_row(heap, (3,), 6), ((0, 1, 2, 3, 4, 5),))
        self.assertEqual(barring_part(heap, (3,), 5), tuple(range(12)))
        self.assertEqual(many_needed(heap, (0, 11)), 6)
        self.assertEqual(least_row(ring((0,)), (0,), 1), ((0,),))
        self.assertRaises(CanNot, least_row, ring((0,)), (0,), 2)

    def test_is_row(self):
        goods = [(), ((0,),), ((0, 1), (0,), (0, 1)), ((2,), (0, 1, 2)), ((0, 1),) * 4, ((0,),) * 3000]
        check_things(self, lambda thing: is_row(thing, 3), goods[:-1])
        self.assertIs(is_row(goods[-1], 1), True)
        for bad in (((),), ((0,), ()), ((0, 3),), ((1, 0),), ((0, 0),), ((-1,),), (0,), ((0,), 0), ((0,), [0]), "0"):
            self.assertIs(is_row(bad, 3), False, bad)
        for m in (0, -1, -10 ** 30):
            self.assertIs(is_row(((0,),), m), False)
            self.assertIs(is_row(((-1,),), m), False)
            self.assertIs(is_row((), m), True)
        self.assertIs(is_row(((10 ** 30,),), 10 ** 30 + 1), True)

    def test_is_freeing_judges_things(self):
        good = ((0,), (0, 1), (1,))
        self.assertIs(is_freeing(TWINS, (0, 2), 2, good), True)
        for bad in tuple(spoilt(good)) + NOTHINGS[:-6] + ((), ((0,),), ((0, 1, 2),), ((0, 1), ())):
            if bad != ((0, 1),) * 4:
                self.assertIs(is_freeing(TWINS, (0, 2), 2, bad), False, bad)
        long = ((0,),) * 5000
        self.assertIs(is_freeing(TWINS, (0, 2), 2, long), False)
        self.assertIs(is_freeing(TWINS, (0, 2), 2, long + ((0, 1),)), True)
        self.assertIs(is_freeing(TWINS, (0, 2), 2, ((0, 1),) + long + ((0, 2),)), False)
        self.assertIs(is_freeing(TWINS, (0, 2), 1, ((0, 1),)), False)

    def test_is_barring_part_judges_things(self):
        self.assertIs(is_barring_part(TWINS, (0,), 1, (0, 1)), True)
        for bad in tuple(spoilt((0, 1))) + NOTHINGS + ((2,), (0,), (1, 0), (0, 1, 2), ()):
            self.assertIs(is_barring_part(TWINS, (0,), 1, bad), False, bad)

    def test_checks_in_their_order(self):
        calls = [lambda goal: row_frees(TWINS, ((0,),), goal), lambda goal: is_freeing(TWINS, goal, 1, None),
                 lambda goal: many_needed(TWINS, goal), lambda goal: barring_part(TWINS, goal, 2),
                 lambda goal: is_barring_part(TWINS, goal, 1, None), lambda goal: least_row(TWINS, goal, 1)]
        for call in calls:
            for goal, place in (((3, 4, 5), 4), ((-1, 3), -1), ((0, 9), 9)):
                with self.assertRaises(NoPlace) as caught:
                    call(goal)
                self.assertEqual(caught.exception.place, place)
            self.assertRaises(Unfit, call, (0, 3))
            self.assertIn(3, alive(TWINS))

    def test_what_holds_for_every_call(self):
        for heap in [LINE, TWINS, (1, (), ())] + small_heaps()[::60] + great_heaps()[::4]:
            gone = tuple(sorted(lifeless(heap)))
            row = ((0,), tuple(range(heap[0])), (heap[0] - 1,))
            check_call(self, is_row, (row, heap[0]), "bool")
            check_call(self, freed_by_row, (heap, row), "tuple")
            check_call(self, freed_by_row, (heap, ()), "tuple")
            for goal in (gone[:1], gone, (0,), (0, 12)):
                if goal == ():
                    continue
                check_call(self, row_frees, (heap, row, goal), "bool")
                check_call(self, many_needed, (heap, goal), "int")
                for many in (1, heap[0]):
                    check_call(self, is_freeing, (heap, goal, many, row), "bool")
                    check_call(self, barring_part, (heap, goal, many), "set")
                    check_call(self, is_barring_part, (heap, goal, many, goal), "bool")
                    check_call(self, least_row, (heap, goal, many), "tuple")
