"""Section 24: what lots are worth."""

from itertools import product
from random import Random
from unittest import TestCase

from gatheryard import errors, worth as worths
from gatheryard.errors import CanNot
from gatheryard.worth import (best_lot, best_next, best_row, best_worth, dealing, fee_steps, inner_best, is_dealing,
                              is_tariff, left_by, most_for, outer_best, worth)
from tests.checks import check_call, check_examples, check_things
from tests.makers import (chain_heap, full_heap, great_heaps, lots, random_heap, ring, ring_of_rings, small_heaps,
                          some_course, some_heaps, subsets)
from tests.plain import (all_ahead, areas, freed_in, heap_of_stand, inside, kept_in, lifeless, members, row_of_freed,
                         worth_plainly)

EXAMPLES = """
>>> twins = (2, ((0, (1,)), (1, (0,)), (0, (2, 3)), (1, ())), (3,))
>>> fair = (3, 1, 0)
>>> [worth(twins, fair, some) for some in ((), (0,), (1,), (0, 1))], inner_best(twins, fair), outer_best(twins, (0, 0, 0))
([0, 2, -2, 8], (0, 1), (0, 1))
>>> left_by(twins, fair, ((4, 0), (0, 4), (4,))), left_by(twins, fair, ((4, 0), (4, 0), (4,))), is_dealing(twins, fair, ((4, 0), (4, 0), (3,)))
(8, 10, False)
>>> fee_steps(twins, 3, 1), best_lot(twins, fair, 1), most_for(twins, 1), best_next(twins, fair, ((0,),)), best_row(twins, fair)
([(0, (0, 1)), (5, ())], (2, (0,)), (3, (0, 1)), (0, 1), ((0, 1),))
>>> most_for(twins, 0)
raises CanNot()
"""

TWINS = (2, ((0, (1,)), (1, (0,)), (0, (2, 3)), (1, ())), (3,))
FAIR = (3, 1, 0)
TARIFFS = ((0, 0, 0), (1, 0, 0), (0, 1, 0), (0, 0, 1), (3, 1, 0), (5, 2, 3), (1000, 1000, 1000), (1000, 1, 999),
           (7, 0, 4), (1, 3, 0), (999, 1000, 0), (1, 0, 1000))


def valued_heaps(seed):
    """Pairs (HEAP, TARIFF)."""
    random = Random(seed)
    heaps = some_heaps(150, 4, 7, seed + 1) + great_heaps() + small_heaps()[::9]
    for heap in heaps + [(1, (), ()), (6, (), ()), ring((0, 1, 2)), TWINS, full_heap(3, 5, (2,))]:
        yield heap, random.choice(TARIFFS)
        yield heap, tuple([random.randint(0, random.choice((3, 20, 1000))) for _ in range(3)])


def best_plainly(heap, tariff):
    """The greatest worth, and all sets that are worth so much, by trying all."""
    found = {some: worth_plainly(heap, tariff, some) for some in subsets(range(heap[0]))}
    most = max(found.values())
    return most, [some for some in found if found[some] == most]


def common(sets):
    return tuple(sorted(set.intersection(*[set(own) for own in sets])))


def united(sets):
    return tuple(sorted(set.union(*[set(own) for own in sets])))


def needs_plainly(heap):
    return [areas(heap, all_ahead(heap, one)) for one in sorted(lifeless(heap))]


def left_plainly(heap, tariff, shares):
    """What a DEALING leaves, area by area."""
    total = 0
    for area in range(heap[0]):
        dealt = sum(own[need.index(area)] for own, need in zip(shares, needs_plainly(heap)) if area in need)
        total += max(0, dealt - tariff[1] * len(inside(heap, (area,))) - tariff[2])
    return total


def is_dealing_plainly(heap, tariff, shares):
    needs = needs_plainly(heap)
    return len(shares) == len(needs) and all(
        len(own) == len(need) and min(own) >= 0 and sum(own) == tariff[0] + tariff[1]
        for own, need in zip(shares, needs))


def some_dealing(random, heap, tariff):
    """A DEALING by chance."""
    found = []
    for need in needs_plainly(heap):
        cuts = sorted(random.randint(0, tariff[0] + tariff[1]) for _ in need[1:])
        found.append(tuple([high - low for low, high in zip([0] + cuts, cuts + [tariff[0] + tariff[1]])]))
    return tuple(found)


def behind(heap, row):
    """The HEAP behind row, nothing moved."""
    gone = {one for own in row_of_freed(heap, row) for one in own}
    return heap_of_stand(heap, tuple([None if one in gone else area for one, (area, _) in enumerate(heap[1])]))


def next_plainly(heap, tariff, row):
    """The LOT that is worth most behind row, of several the least, None if none is worth more than 0."""
    there = behind(heap, row)
    ranked = sorted((-worth_plainly(there, tariff, lot), lot) for lot in lots(heap[0]))
    return ranked[0][1] if ranked[0][0] < 0 else None


class WorthTest(TestCase):

    def test_examples(self):
        check_examples(self, EXAMPLES, {**vars(errors), **vars(worths)})

    def test_is_tariff(self):
        for own in product((-1, 0, 1, 1000, 10 ** 30, True, False, None, "1"), repeat=3):
            good = all(type(number) is int and number >= 0 for number in own)
            self.assertIs(is_tariff(own), good)
            self.assertIs(is_tariff(list(own)), False)
        check_things(self, is_tariff, [(0, 0, 0), (3, 1, 1000)])
        for thing in ((), (1,), (1, 2), (1, 2, 3, 4), ((1, 2, 3),), (1, 2, (3,))):
            self.assertIs(is_tariff(thing), False)

    def test_worth_of_all_sets(self):
        for heap, tariff in valued_heaps(271):
            for some in subsets(range(heap[0]))[::3] + [()]:
                self.assertEqual(worth(heap, tariff, some), worth_plainly(heap, tariff, some))

    def test_best_sets_by_trying_all(self):
        for heap, tariff in valued_heaps(272):
            most, sets = best_plainly(heap, tariff)
            self.assertEqual(best_worth(heap, tariff), most)
            self.assertEqual(inner_best(heap, tariff), common(sets))
            self.assertEqual(outer_best(heap, tariff), united(sets))
            self.assertIn(common(sets), sets)
            self.assertIn(united(sets), sets)

    def test_two_sets_together_are_worth_no_more_than_joined_and_common(self):
        random = Random(273)
        for heap, tariff in valued_heaps(274):
            for _ in range(4):
                one, other = random.choice(subsets(range(heap[0]))), random.choice(subsets(range(heap[0])))
                together = worth(heap, tariff, one) + worth(heap, tariff, other)
                apart = worth(heap, tariff, united([one, other])) + worth(heap, tariff, common([one, other]))
                self.assertLessEqual(together, apart)

    def test_dealings_leave_just_the_best_worth(self):
        for heap, tariff in valued_heaps(275):
            found = dealing(heap, tariff)
            self.assertTrue(is_dealing_plainly(heap, tariff, found), (heap, tariff, found))
            self.assertIs(is_dealing(heap, tariff, found), True)
            self.assertEqual(left_plainly(heap, tariff, found), best_plainly(heap, tariff)[0])
            self.assertEqual(left_by(heap, tariff, found), best_worth(heap, tariff))

    def test_no_dealing_leaves_less(self):
        random = Random(276)
        for heap, tariff in valued_heaps(277):
            shares = some_dealing(random, heap, tariff)
            self.assertIs(is_dealing(heap, tariff, shares), True)
            left = left_by(heap, tariff, shares)
            self.assertEqual(left, left_plainly(heap, tariff, shares))
            self.assertGreaterEqual(left, best_worth(heap, tariff))

    def test_dealings_by_trying_all(self):
        for heap in (TWINS, ring((0, 1)), (2, ((0, ()), (1, (0,))), ()), (2, ((0, ()), (1, ())), ())):
            for tariff in ((1, 1, 0), (2, 0, 1), (0, 2, 3)):
                choices = [[own for own in product(range(4), repeat=len(need))] for need in needs_plainly(heap)]
                lefts = []
                for shares in product(*choices):
                    good = is_dealing_plainly(heap, tariff, shares)
                    self.assertIs(is_dealing(heap, tariff, shares), good)
                    if good:
                        lefts.append(left_by(heap, tariff, shares))
                self.assertEqual(min(lefts), best_worth(heap, tariff))

    def test_is_dealing_judges_things(self):
        check_things(self, lambda thing: is_dealing(TWINS, FAIR, thing), [((4, 0), (0, 4), (4,)), ((1, 3), (2, 2), (4,))])
        check_things(self, lambda thing: is_dealing((1, (), ()), FAIR, thing), [()])
        check_things(self, lambda thing: is_dealing(ring((0,)), (0, 0, 9), thing), [((0,),)])
        for thing in (((5, -1), (0, 4), (4,)), ((4, 0), (0, 4)), ((4, 0), (0, 4), (4,), (4,)), ((4,), (0, 4), (4,)),
                      ((4, 0, 0), (0, 4), (4,)), ([4, 0], (0, 4), (4,)), ((4, False), (0, 4), (4,)), ((), (), ())):
            self.assertIs(is_dealing(TWINS, FAIR, thing), False)
        self.assertIs(is_dealing(ring((0,)), (1, 0, 0), ((True,),)), False)

    def test_fee_steps_by_each_fee(self):
        random = Random(278)
        heaps = some_heaps(60, 4, 7, 279) + great_heaps()[::2] + [(1, (), ()), TWINS, ring((0, 1, 2)), (6, (), ())]
        for heap in heaps:
            for gain, price in [(random.randint(0, 9), random.randint(0, 9)), (0, 0), (7, 0), (0, 2)]:
                steps, last = [], None
                for fee in range(9 * 12 + 2):
                    some = united(best_plainly(heap, (gain, price, fee))[1])
                    if some != last:
                        steps.append((fee, some))
                        last = some
                    if some == ():
                        break
                self.assertEqual(fee_steps(heap, gain, price), steps)
                self.assertEqual(last, ())

    def test_fee_steps_at_the_bounds(self):
        for heap in great_heaps() + [ring_of_rings()]:
            for gain, price in ((1000, 1000), (1000, 0), (0, 1000), (997, 3)):
                steps = fee_steps(heap, gain, price)
                self.assertEqual((steps[0][0], steps[-1][1]), (0, ()))
                for (fee, some), (later, other) in zip(steps, steps[1:]):
                    self.assertTrue(set(some) > set(other))
                    for at, best in ((later - 1, some), (later, other), (fee, some)):
                        self.assertEqual(united(best_plainly(heap, (gain, price, at))[1]), best)

    def test_best_lots_by_trying_all(self):
        for heap, tariff in valued_heaps(280):
            for many in range(1, heap[0] + 2):
                ranked = sorted((-worth_plainly(heap, tariff, lot), lot) for lot in lots(heap[0]) if len(lot) <= many)
                self.assertEqual(best_lot(heap, tariff, many), (-ranked[0][0], ranked[0][1]))

    def test_most_for_what_is_kept(self):
        for heap, _ in valued_heaps(281):
            for many in range(0, len(heap[1]) + 1, 2):
                ranked = sorted((-len(freed_in(heap, lot)), lot) for lot in lots(heap[0])
                                if len(kept_in(heap, lot)) <= many)
                if ranked:
                    self.assertEqual(most_for(heap, many), (-ranked[0][0], ranked[0][1]))
                else:
                    self.assertRaises(CanNot, most_for, heap, many)

    def test_best_next_lots_and_rows(self):
        random = Random(282)
        for heap, tariff in valued_heaps(283):
            row = () if random.randrange(3) == 0 else some_course(random, heap[0], 3)
            self.assertEqual(best_next(heap, tariff, row), next_plainly(heap, tariff, row))
            wanted = ()
            while next_plainly(heap, tariff, wanted) is not None:
                wanted = wanted + (next_plainly(heap, tariff, wanted),)
            self.assertEqual(best_row(heap, tariff), wanted)

    def test_smallest(self):
        none, one, root = (1, (), ()), (1, ((0, (0,)),), ()), (1, ((0, ()),), (0,))
        self.assertEqual((worth(none, FAIR, ()), worth(none, (3, 1, 2), (0,)), worth(one, (3, 1, 2), (0,))), (0, -2, 1))
        self.assertEqual((worth(root, (3, 1, 2), (0,)), best_worth(root, FAIR), outer_best(root, FAIR)), (-3, 0, ()))
        self.assertEqual((inner_best(none, FAIR), outer_best(none, FAIR), dealing(none, FAIR)), ((), (0,), ()))
        self.assertEqual((best_lot(none, (1, 1, 5), 1), most_for(none, 0), best_next(none, FAIR, ()),
                          best_row(none, FAIR)), ((-5, (0,)), (0, (0,)), None, ()))
        self.assertEqual((fee_steps(none, 3, 1), fee_steps(one, 3, 1), fee_steps(root, 3, 1)),
                         ([(0, (0,)), (1, ())], [(0, (0,)), (4, ())], [(0, ())]))
        self.assertEqual((dealing(one, (3, 1, 0)), left_by(one, (3, 1, 0), ((4,),)), left_by(none, FAIR, ())),
                         (((4,),), 3, 0))
        self.assertEqual((best_worth(TWINS, (0, 0, 0)), dealing(one, (0, 0, 0)), best_row(TWINS, (0, 0, 0))),
                         (0, ((0,),), ()))
        self.assertRaises(CanNot, most_for, root, 0)
        self.assertEqual(most_for(root, 1), (0, (0,)))

    def test_great_dealings_are_quick(self):
        random = Random(284)
        for _ in range(40):
            heap = random_heap(random, 6, 12, random.choice((3, 6, 9)), 0)
            tariff = tuple([random.randint(900, 1000) for _ in range(3)])
            self.assertEqual(left_by(heap, tariff, dealing(heap, tariff)), best_worth(heap, tariff))
        self.assertEqual(left_by(chain_heap(6, 12, ()), (1000, 0, 999), dealing(chain_heap(6, 12, ()), (1000, 0, 999))),
                         best_worth(chain_heap(6, 12, ()), (1000, 0, 999)))
        self.assertEqual(list(members(TWINS)), [0, 1, 2, 3])

    def test_what_holds_for_every_call(self):
        random = Random(285)
        for heap, tariff in [(TWINS, FAIR), ((1, (), ()), (0, 0, 0)), (full_heap(6, 12, ()), (1000, 3, 5)),
                             (random_heap(random, 6, 12, 6, 5), (9, 4, 2)), (ring((0, 1, 2)), (0, 0, 1))]:
            shares = dealing(heap, tariff)
            check_call(self, is_tariff, (tariff,), "bool")
            check_call(self, worth, (heap, tariff, ()), "int")
            check_call(self, worth, (heap, tariff, (0,)), "int")
            check_call(self, best_worth, (heap, tariff), "int")
            check_call(self, inner_best, (heap, tariff), "set")
            check_call(self, outer_best, (heap, tariff), "set")
            check_call(self, dealing, (heap, tariff), "tuple")
            check_call(self, is_dealing, (heap, tariff, shares), "bool")
            check_call(self, left_by, (heap, tariff, shares), "int")
            check_call(self, fee_steps, (heap, 5, 2), "list")
            for many in (1, heap[0]):
                check_call(self, best_lot, (heap, tariff, many), "tuple")
                check_call(self, most_for, (heap, many - 1), "tuple")
            for row in ((), ((0,),), tuple(lots(heap[0])[:4])):
                check_call(self, best_next, (heap, tariff, row), "set?")
            check_call(self, best_row, (heap, tariff), "tuple")
