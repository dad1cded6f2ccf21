"""Section 7: books."""

from random import Random
from unittest import TestCase

from gatheryard import books as module, errors, heaps, parts
from gatheryard.books import (block_entries, book, book_moves, books, entries, harmful_lot, is_blocks, look, needless,
                              same_look, stuck_by_blocks)
from gatheryard.errors import NoPlace, Unfit
from gatheryard.heaps import dead, is_heap, live, relaid
from tests.checks import NOTHINGS, check_call, check_examples, spoilt
from tests.makers import blocks_for, great_heaps, lots, ring, ring_of_rings, small_heaps, some_heaps
from tests.plain import alive, as_set, entered, inside, kept_from, lifeless, members, tied
from tests.test_parts import YARD

EXAMPLES = """
>>> yard = (3, ((0, (1,)), (1, (2,)), (0, (0, 3)), (2, (4,)), (2, ()), (1, (6,)), (1, ())), (5,))
>>> books(yard) == (book(yard, 0), book(yard, 1), book(yard, 2)), books(yard)
(True, (((1, 2),), ((0, 1),), ((2, 3),)))
>>> entries(yard, (0,)), entries(yard, (1,)), entries(yard, (0, 1))
((2,), (1, 5), (5,))
>>> look(yard, (1,)), look(yard, (2,))
(((1, 5, 6), (3, ((1, ()), (1, (2,)), (1, ())), (0, 1))), ((3, 4), (3, ((2, (1,)), (2, ())), (0,))))
>>> blocks = (0, 1, 0, 2, 2, 1, 3)
>>> is_blocks(yard, blocks), is_blocks(yard, (0,) * 7), block_entries(yard, (0, 1), blocks)
(True, False, (1, 5))
>>> needless(yard, (0, 1), blocks), needless(yard, (2,), blocks), harmful_lot(yard, blocks), stuck_by_blocks(yard, blocks)
((0, 1, 2), (), (0, 1), (0, 1, 2, 3, 4))
>>> there = (1, 1, 0, 2, 2, 1, 1)
>>> book_moves(yard, there), same_look(yard, relaid(yard, there), (2,)), same_look(yard, relaid(yard, there), (1,))
((((1, 0, 1),), ((1, 2, 0),)), True, False)
>>> entries(yard, (0, 3))
raises NoPlace(place=3)
"""


def heaps_for_books():
    return small_heaps()[::3] + some_heaps(60, 4, 7, 77) + great_heaps()[::2]


def plain_book(heap, area):
    return as_set((near, far) for near in members(heap) for far in members(heap)
                  if tied(heap, near, far) and heap[1][far][0] == area != heap[1][near][0])


def plain_look(heap, lot):
    names = as_set(inside(heap, lot))
    objects = tuple((heap[1][one][0], tuple(place for place, far in enumerate(names) if tied(heap, one, far)))
                    for one in names)
    return names, (heap[0], objects, tuple(place for place, one in enumerate(names) if one in entered(heap, lot)))


def block_roots(heap, lot, blocks):
    return {one for one in inside(heap, lot) if any(blocks[own] == blocks[one] for own in entered(heap, lot))}


def kept_by_blocks(heap, lot, blocks):
    return kept_from(heap, lot, block_roots(heap, lot, blocks))


def plain_needless(heap, lot, blocks):
    return kept_by_blocks(heap, lot, blocks) - kept_from(heap, lot, entered(heap, lot))


class BooksTest(TestCase):

    def test_examples(self):
        check_examples(self, EXAMPLES, {**vars(errors), **vars(heaps), **vars(parts), **vars(module)})

    def test_books(self):
        for heap in heaps_for_books():
            wanted = tuple(plain_book(heap, area) for area in range(heap[0]))
            self.assertEqual(books(heap), wanted)
            self.assertEqual(tuple(book(heap, area) for area in range(heap[0])), wanted)

    def test_looks(self):
        for heap in heaps_for_books():
            for lot in lots(heap[0]):
                self.assertEqual(entries(heap, lot), as_set(entered(heap, lot)))
                self.assertEqual(look(heap, lot), plain_look(heap, lot))
                names, inner = look(heap, lot)
                self.assertIs(is_heap(inner), True)
                self.assertLessEqual({names[place] for place in dead(inner)}, lifeless(heap))
            names, inner = look(heap, tuple(range(heap[0])))
            self.assertEqual((dead(inner), names), (dead(heap), tuple(members(heap))))

    def test_same_look(self):
        random = Random(8)
        for heap in heaps_for_books()[::4]:
            other = relaid(heap, [random.randrange(heap[0]) for _ in members(heap)])
            less = (heap[0], heap[1], heap[2][:-1])
            for lot in lots(heap[0]):
                self.assertIs(same_look(heap, heap, lot), True)
                for own in (other, less, (heap[0], (), ())):
                    self.assertIs(same_look(heap, own, lot), plain_look(heap, lot) == plain_look(own, lot))

    def test_blocks(self):
        random = Random(9)
        for heap in heaps_for_books():
            blocks = blocks_for(random, heap)
            self.assertIs(is_blocks(heap, blocks), True)
            for lot in lots(heap[0]):
                self.assertEqual(block_entries(heap, lot, blocks), as_set(block_roots(heap, lot, blocks)))
                self.assertEqual(needless(heap, lot, blocks), as_set(plain_needless(heap, lot, blocks)))

    def test_blocks_over_all_lots(self):
        random = Random(10)
        for heap in heaps_for_books():
            blocks = blocks_for(random, heap)
            harmful = [lot for lot in lots(heap[0]) if plain_needless(heap, lot, blocks)]
            self.assertEqual(harmful_lot(heap, blocks), min(harmful, key=lambda lot: (len(lot), lot), default=None))
            stuck = [one for one in lifeless(heap)
                     if all(one in kept_by_blocks(heap, lot, blocks)
                            for lot in lots(heap[0]) if heap[1][one][0] in lot)]
            self.assertEqual(stuck_by_blocks(heap, blocks), as_set(stuck))

    def test_blocks_of_one_object(self):
        for heap in heaps_for_books()[::5]:
            alone = tuple([7 * one + 3 for one in members(heap)])
            self.assertIs(harmful_lot(heap, alone), None)
            self.assertEqual(stuck_by_blocks(heap, alone), ())

    def test_book_moves(self):
        random = Random(11)
        for heap in heaps_for_books():
            places = tuple([random.randrange(heap[0]) for _ in members(heap)])
            ahead = {(area, *tie) for area in range(heap[0]) for tie in plain_book(heap, area)}
            other = relaid(heap, places)
            behind = {(area, *tie) for area in range(heap[0]) for tie in plain_book(other, area)}
            self.assertEqual(book_moves(heap, places), (as_set(ahead - behind), as_set(behind - ahead)))
            for wrong in (places + (0,), places[:-1] + (heap[0],), places[:-1] + (-1,)):
                self.assertRaises(Unfit, book_moves, heap, wrong)

    def test_is_blocks_judges_things(self):
        heap = (2, ((0, ()), (1, ()), (0, ())), ())
        for good in ((0, 1, 0), (0, 1, 2), (10 ** 40, 5, 10 ** 40), (1, 0, 1)):
            self.assertIs(is_blocks(heap, good), True)
            for bad in spoilt(good):
                self.assertIs(is_blocks(heap, bad), False, bad)
        for bad in NOTHINGS + ((0, 0, 1), (0, 1), (0, 1, 0, 1), (0, 1, -1), (), (0, 1, 1)):
            self.assertIs(is_blocks(heap, bad), False, bad)
        self.assertIs(is_blocks((1, (), ()), ()), True)
        self.assertIs(is_blocks((1, (), ()), []), False)

    def test_areas_that_are_not_there(self):
        heap, blocks = ring((0, 1, 0)), (0, 1, 0)
        for call, place in (((book, heap, 2), 2), ((book, heap, -1), -1), ((entries, heap, (1, 2, 3)), 2),
                            ((look, heap, (-2, 0)), -2), ((same_look, heap, heap, (0, 9)), 9),
                            ((block_entries, heap, (5,), blocks), 5), ((needless, heap, (-1, 5), blocks), -1)):
            with self.assertRaises(NoPlace) as caught:
                call[0](*call[1:])
            self.assertEqual(caught.exception.place, place, call[0])

    def test_rings_over_all_areas(self):
        heap = ring_of_rings()
        self.assertEqual(live(look(heap, (0, 1, 2))[1]), (0, 1, 2, 3, 4, 5))
        self.assertEqual(alive(heap), set())
        self.assertEqual(entries(heap, tuple(range(6))), ())

    def test_what_holds_for_every_call(self):
        random = Random(12)
        for heap in [YARD, (1, (), ())] + small_heaps()[::60] + great_heaps()[::4]:
            blocks = blocks_for(random, heap)
            check_call(self, books, (heap,), "tuple")
            check_call(self, is_blocks, (heap, blocks), "bool")
            check_call(self, harmful_lot, (heap, blocks), "set?")
            check_call(self, stuck_by_blocks, (heap, blocks), "set")
            check_call(self, book_moves, (heap, (0,) * len(heap[1])), "tuple")
            check_call(self, book_moves, (heap, (0,) * 13), "tuple")
            for area in (0, heap[0] - 1, heap[0]):
                check_call(self, book, (heap, area), "set")
                check_call(self, entries, (heap, (area,)), "set")
                check_call(self, look, (heap, (area,)), "tuple")
                check_call(self, same_look, (heap, heap, (area,)), "bool")
                check_call(self, block_entries, (heap, (area,), blocks), "set")
                check_call(self, needless, (heap, (area,), blocks), "set")
