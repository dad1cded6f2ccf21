"""Section 17: moves."""

from itertools import product
from math import prod
from random import Random
from unittest import TestCase

from gatheryard import errors, heaps, moves, rules
from gatheryard.errors import NoPlace, TooMuch, Unfit
from gatheryard.heaps import ahead_of, cut_to
from gatheryard.moves import (are_stands, areas_row, first_stand, freed_when, heap_at, is_stand, moved, moves_of,
                              stands_behind, stands_of)
from gatheryard.rules import rule_by
from gatheryard.sweeps import freed
from tests.checks import check_call, check_examples, check_things
from tests.makers import all_heaps, full_heap, great_heaps, lots, random_rule, ring, some_course, some_heaps
from tests.plain import (all_ahead, areas, choices_at, foremost_parts, heap_of_stand, lifeless, may_lie_in, members,
                         next_stand, play, where_all_lie)

EXAMPLES = """
>>> pair = (3, ((0, (1,)), (1, (0,)), (1, (2,))), (2,))
>>> up = rule_by("greatest", 3)
>>> stands_of(pair, up, ((0,), (1,), (2,))), freed_when(pair, up, ((1,), (1,), (0,), (1,)))
([(0, 1, 1), (1, 1, 1), (None, None, 1), (None, None, 1)], (4, 4, None))
>>> moves_of(pair, up, (0,)), moves_of(pair, up, (0, 1)), moved(pair, up, (0, 1)), heap_at(pair, (1, 1, 1)) == moved(pair, up, (0,))
(((1,), (1,), (1,)), ((), (), (1,)), (3, ((1, (0,)),), (0,)), True)
>>> free = rule_by("all", 3)
>>> stands_behind(pair, free, (0, 1, 1), (0,)), is_stand(pair, (None, 1, 1)), areas_row(pair, up, ((0,),), (0, 1))
([(0, 1, 1), (1, 1, 1)], False, [(0, 1), (1,)])
>>> are_stands(pair, free, ((0,), (1,)), ((0, 1, 1), (0, 1, 1), (0, 0, 1)))
True
>>> moved(pair, free, (0,))
raises Unfit()
"""

PAIR = (3, ((0, (1,)), (1, (0,)), (1, (2,))), (2,))
UP, FREE = rule_by("greatest", 3), rule_by("all", 3)


def is_stand_plainly(heap, stand):
    """Whether what is freed at stand is dead, and freed with all that is ahead of it."""
    gone = {one for one, area in enumerate(stand) if area is None}
    return gone <= lifeless(heap) and all(all_ahead(heap, one) <= gone for one in gone)


def some_stand(random, heap):
    """A STAND of heap, led to or not."""
    gone = set()
    for one in lifeless(heap):
        if random.randrange(3) == 0:
            gone |= all_ahead(heap, one)
    return tuple([None if one in gone else random.randrange(heap[0]) for one in members(heap)])


def crowd(sights):
    """A HEAP of six areas in whose first one objects lie that see just these numbers of areas, held from the others."""
    objects = [(0, ())] * len(sights)
    for area in range(1, 6):
        held = tuple([place for place, many in enumerate(sights) if many > area])
        objects.append((area, held))
    return (6, tuple(objects), ())


def moving_heaps(seed):
    return some_heaps(120, 4, 6, seed) + [heap for heap in great_heaps()] + [(1, (), ()), (6, (), ()), ring((0, 1, 2))]


class MovesTest(TestCase):

    def test_examples(self):
        check_examples(self, EXAMPLES, {**vars(errors), **vars(rules), **vars(heaps), **vars(moves)})

    def test_stands_by_trying_all(self):
        for heap in list(all_heaps(2, 2)) + some_heaps(40, 3, 3, 171):
            for stand in product((None,) + tuple(range(heap[0])), repeat=len(heap[1])):
                self.assertIs(is_stand(heap, stand), is_stand_plainly(heap, stand))
        random = Random(172)
        for heap in some_heaps(60, 5, 8, 173) + great_heaps():
            self.assertIs(is_stand(heap, first_stand(heap)), True)
            self.assertEqual(first_stand(heap), where_all_lie(heap))
            for _ in range(4):
                stand = some_stand(random, heap)
                self.assertIs(is_stand(heap, stand), True)
                other = tuple([None if random.randrange(5) == 0 else area for area in stand])
                self.assertIs(is_stand(heap, other), is_stand_plainly(heap, other))

    def test_is_stand_judges_things(self):
        dead = (2, ((0, (1,)), (1, ()), (1, ())), (2,))
        self.assertIs(is_stand(dead, (None, None, 1)), True)
        for wrong in ([0, 1, 1], (0, 1), (0, 1, 1, 1), (0, 1, 2), (0, 1, -1), (0, True, 1), (False, 1, 1), (0, 1, "1"),
                      (0, 1, (1,)), (0, 1, [1]), (0, 1, None), (0, None, 1), (None, 0, None), (0, 1, 10 ** 40), (), None,
                      7, True, "011", ((0, 1, 1),), (0, 1, ())):
            self.assertIs(is_stand(dead, wrong), False, wrong)
        check_things(self, lambda thing: is_stand((3, ((1, ()),), (0,)), thing), [(2,), (0,)])
        check_things(self, lambda thing: is_stand(PAIR, thing), [(2, 2, 2), (None, None, 0)])
        self.assertIs(is_stand((1, (), ()), ()), True)
        self.assertIs(is_stand((1, (), ()), []), False)

    def test_heap_at(self):
        random = Random(174)
        for heap in moving_heaps(175):
            stand = some_stand(random, heap)
            self.assertEqual(heap_at(heap, stand), heap_of_stand(heap, stand))
            self.assertEqual(heap_at(heap, first_stand(heap)), heap)

    def test_moves_of(self):
        random = Random(176)
        for heap in moving_heaps(177):
            for rule in (random_rule(random, heap[0], True), random_rule(random, heap[0], False)):
                for lot in random.sample(lots(heap[0]), min(4, len(lots(heap[0])))):
                    self.assertEqual(moves_of(heap, rule, lot), tuple(may_lie_in(heap, rule, lot)))

    def test_stands_behind(self):
        random = Random(178)
        for heap in moving_heaps(179):
            for rule in (random_rule(random, heap[0], True), random_rule(random, heap[0], False)):
                stand, lot = some_stand(random, heap), random.choice(lots(heap[0]))
                choices = choices_at(heap, rule, stand, lot)
                if prod(len(own) for own in choices) > 400:
                    self.assertRaises(TooMuch, stands_behind, heap, rule, stand, lot)
                else:
                    found = stands_behind(heap, rule, stand, lot)
                    self.assertEqual(found, list(product(*choices)))
                    self.assertTrue(all(is_stand(heap, own) for own in found))

    def test_four_hundred_stands_and_no_more(self):
        loose = rule_by("all", 6)
        heap = crowd((4, 4, 5, 5))
        found = stands_behind(heap, loose, first_stand(heap), (0,))
        self.assertEqual(len(found), 400)
        self.assertEqual((found[0], found[-1]), ((0, 0, 0, 0, 1, 2, 3, 4, 5), (3, 3, 4, 4, 1, 2, 3, 4, 5)))
        for sights in ((3, 3, 3, 3, 5), (2, 6, 6, 6), (6, 6, 6, 6, 6, 6, 6)):
            heap = crowd(sights)
            self.assertRaises(TooMuch, stands_behind, heap, loose, first_stand(heap), (0,))
            begun = first_stand(heap)
            self.assertIs(are_stands(heap, loose, ((0,),), (begun, begun)), True)

    def test_are_stands(self):
        random = Random(180)
        for heap in moving_heaps(181):
            rule = random_rule(random, heap[0], random.randrange(2) == 0)
            row = some_course(random, heap[0], 4)
            stands = [where_all_lie(heap)]
            for lot in row:
                stands.append(tuple([random.choice(own) for own in choices_at(heap, rule, stands[-1], lot)]))
            self.assertIs(are_stands(heap, rule, row, tuple(stands)), True)
            self.assertIs(are_stands(heap, rule, row, stands), False)
            self.assertIs(are_stands(heap, rule, row, tuple(stands[1:])), False)
            self.assertIs(are_stands(heap, rule, row, tuple(stands + stands[-1:])), False)
            for _ in range(6):
                at = random.randrange(len(stands))
                other = list(stands)
                other[at] = tuple([random.choice((area, area, random.randrange(heap[0]), None)) for area in stands[at]])
                good = other[0] == stands[0] and all(
                    all(place in own for place, own in zip(other[turn + 1], choices_at(heap, rule, other[turn], lot)))
                    for turn, lot in enumerate(row) if is_stand_plainly(heap, other[turn]))
                good = good and all(is_stand_plainly(heap, own) for own in other)
                self.assertIs(are_stands(heap, rule, row, tuple(other)), good)

    def test_are_stands_judges_things(self):
        row = ((0,), (1,))
        check_things(self, lambda thing: are_stands(PAIR, FREE, row, thing),
                     [((0, 1, 1), (1, 1, 1), (None, None, 1)), ((0, 1, 1), (0, 1, 1), (0, 1, 1))])
        check_things(self, lambda thing: are_stands((1, (), ()), (), ((0,),), thing), [((), ())])
        check_things(self, lambda thing: are_stands((2, (), ()), rule_by("all", 2), (), thing), [((),)])
        check_things(self, lambda thing: are_stands(PAIR, UP, ((1,),), thing), [((0, 1, 1), (0, 1, 1))])

    def test_plain_rules_sweep_by_sweep(self):
        random = Random(182)
        for heap in moving_heaps(183):
            rule, row = random_rule(random, heap[0], True), some_course(random, heap[0], 6)
            stands = play(heap, rule, row)
            self.assertEqual(stands_of(heap, rule, row), stands)
            self.assertEqual(moved(heap, rule, row[0]), heap_of_stand(heap, stands[1]))
            when = []
            for one in members(heap):
                gone = [many for many, stand in enumerate(stands) if stand[one] is None]
                when.append(gone[0] if gone else None)
            self.assertEqual(freed_when(heap, rule, row), tuple(when))
            some = tuple(sorted(random.sample(range(len(heap[1])), random.randint(0, len(heap[1])))))
            wanted = [tuple(sorted({stand[one] for one in some} - {None})) for stand in stands]
            self.assertEqual(areas_row(heap, rule, row, some), wanted)
            self.assertIs(are_stands(heap, rule, row, tuple(stands)), True)
            self.assertEqual(stands_behind(heap, rule, stands[0], row[0]), [stands[1]])

    def test_a_sweep_frees_what_it_frees_without_moves(self):
        random = Random(184)
        for heap in moving_heaps(185):
            for lot in lots(heap[0])[::3]:
                gone = freed(heap, lot)
                found = moves_of(heap, random_rule(random, heap[0], False), lot)
                self.assertEqual(tuple([one for one, own in enumerate(found) if own == ()]), gone)

    def test_what_happens_to_a_dead_object_hangs_on_what_is_ahead_of_it(self):
        random = Random(186)
        for heap in some_heaps(60, 4, 7, 187):
            rule, row = random_rule(random, heap[0], True), some_course(random, heap[0], 6)
            stands = stands_of(heap, rule, row)
            for one in lifeless(heap):
                before = ahead_of(heap, one)
                alone = stands_of(cut_to(heap, before), rule, row)
                at = before.index(one)
                self.assertEqual([stand[one] for stand in stands], [stand[at] for stand in alone])

    def test_a_foremost_part_comes_to_no_other_area(self):
        random = Random(188)
        for heap in some_heaps(80, 5, 7, 189):
            rule, row = random_rule(random, heap[0], True), some_course(random, heap[0], 6)
            for part in foremost_parts(heap):
                found = areas_row(heap, rule, row, part)
                self.assertEqual(found[0], areas(heap, part))
                self.assertTrue(all(set(more) >= set(less) for more, less in zip(found, found[1:])))

    def test_no_sweeps_and_no_objects(self):
        self.assertEqual(stands_of(PAIR, UP, ()), [(0, 1, 1)])
        self.assertEqual(freed_when(PAIR, UP, ()), (None, None, None))
        self.assertEqual(areas_row(PAIR, UP, (), (0, 2)), [(0, 1)])
        self.assertEqual(areas_row(PAIR, UP, ((0,), (1,)), ()), [(), (), ()])
        self.assertIs(are_stands(PAIR, UP, (), ((0, 1, 1),)), True)
        none = (1, (), ())
        self.assertEqual((stands_of(none, (), ((0,),)), moved(none, (), (0,)), moves_of(none, (), (0,))),
                         ([(), ()], none, ()))
        self.assertEqual((stands_behind(none, (), (), (0,)), freed_when(none, (), ((0,),)), heap_at(none, ())),
                         ([()], (), none))
        one = (1, ((0, (0,)),), ())
        self.assertEqual((moves_of(one, (), (0,)), moved(one, (), (0,))), (((),), none))

    def test_another_number_of_pairs_is_unfit_first(self):
        for rule in ((), rule_by("all", 2), rule_by("greatest", 4), UP[:-1], UP + UP[:1], FREE[:3]):
            for function, args in [
                (moves_of, (PAIR, rule, (0,))), (stands_behind, (PAIR, rule, (0, 1, 1), (0,))),
                (are_stands, (PAIR, rule, ((0,),), None)), (are_stands, (PAIR, rule, (), ((0, 1, 1),))),
                (moved, (PAIR, rule, (0,))), (stands_of, (PAIR, rule, ())), (freed_when, (PAIR, rule, ((0,),))),
                (areas_row, (PAIR, rule, (), (0,))), (areas_row, (PAIR, rule, ((0,),), ())),
            ]:
                self.assertRaises(Unfit, function, *args)
        self.assertRaises(Unfit, stands_behind, crowd((6,) * 7), FREE, (0,) * 12, (0,))

    def test_rules_that_are_not_plain_are_unfit(self):
        for function, args in [(moved, ((0,),)), (stands_of, (((0,),),)), (stands_of, ((),)), (freed_when, ((),)),
                               (areas_row, ((), (0,))), (areas_row, ((), ()))]:
            self.assertRaises(Unfit, function, PAIR, FREE, *args)
            self.assertRaises(Unfit, function, PAIR, UP[:3] + FREE[3:], *args)

    def test_objects_that_are_not_there_come_ahead_of_what_is_unfit(self):
        for rule in (UP, FREE, (), rule_by("all", 2), rule_by("greatest", 4), UP[:-1], UP + UP[:1]):
            for some, place in [((3,), 3), ((0, 2, 5, 9), 5), ((-1, 4), -1), ((10 ** 30,), 10 ** 30)]:
                with self.assertRaises(NoPlace) as caught:
                    areas_row(PAIR, rule, ((0,),), some)
                self.assertEqual(caught.exception.place, place)

    def test_long_rows(self):
        random = Random(190)
        for heap in great_heaps():
            rule = random_rule(random, heap[0], True)
            row = tuple([random.choice(lots(heap[0])) for _ in range(300)])
            stands = stands_of(heap, rule, row)
            self.assertEqual(len(stands), 301)
            self.assertEqual(stands[8], play(heap, rule, row[:8])[-1])
            self.assertEqual(next_stand(heap, rule, stands[-2], row[-1]), stands[-1])

    def test_what_holds_for_every_call(self):
        random = Random(191)
        for heap, rule in [(PAIR, UP), (PAIR, FREE), ((1, (), ()), ()), (ring((0, 1, 2)), rule_by("turn", 3)),
                           (great_heaps()[-1], rule_by("middle", 6)), (full_heap(6, 12, ()), rule_by("all", 6)),
                           (PAIR, ())]:
            stand, row = first_stand(heap), some_course(random, heap[0], 5)
            check_call(self, is_stand, (heap, stand), "bool")
            check_call(self, first_stand, (heap,), "tuple")
            check_call(self, heap_at, (heap, some_stand(random, heap)), "tuple")
            check_call(self, moves_of, (heap, rule, row[0]), "tuple")
            check_call(self, stands_behind, (heap, rule, stand, row[0]), "list")
            check_call(self, stands_behind, (heap, rule, some_stand(random, heap), (0,)), "list")
            check_call(self, are_stands, (heap, rule, row[:1], (stand, stand)), "bool")
            check_call(self, moved, (heap, rule, row[0]), "tuple")
            check_call(self, stands_of, (heap, rule, row), "list")
            check_call(self, freed_when, (heap, rule, row), "tuple")
            for some in ((), tuple(members(heap)), (99,)):
                check_call(self, areas_row, (heap, rule, row, some), "list")
