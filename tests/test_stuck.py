"""Section 14: stuck heaps."""

from itertools import product
from random import Random
from unittest import TestCase

from gatheryard import errors, heaps, leads, rules, stuck
from gatheryard.errors import CanNot
from gatheryard.leads import is_weave, is_woven, weave_of
from gatheryard.rules import rule_by
from gatheryard.stuck import (fewest_changed, heap_of, is_against, is_stuck, is_stuck_heap, least_missed, may_stay,
                              must_stay, stuck_against, stuck_heap, stuck_many)
from gatheryard.sweeps import freed
from tests.checks import check_call, check_examples, check_things
from tests.makers import (all_heaps, all_rules, full_heap, great_heaps, lots, ring, small_and_great_rules, some_course,
                          some_heaps, random_rule, subsets)
from tests.plain import (all_parts, areas, foremost_parts, is_woven_plainly, lifeless, members, missed_by, picks_at,
                         sight_of, stays, weaves)

EXAMPLES = """
>>> great, turn = rule_by("greatest", 3), rule_by("turn", 3)
>>> either = (((0, 1), (0, 1)),) + great[1:]
>>> trio, wide = (3, ((0, (1,)), (1, (2,)), (2, (0,))), ()), (3, ((0, ()), (1, (0,)), (1, (0,)), (2, ())), ())
>>> may_stay(turn, trio), may_stay(great, trio), may_stay(either, trio), must_stay(either, trio), is_stuck(great, trio)
((0, 1, 2), (1, 2), (1, 2), (2,), False)
>>> heap_of(turn, (0, 1, 2), ((0, 2), (0, 1), (1, 2)))
(3, ((0, (0, 1)), (1, (1, 2)), (2, (0, 2))), ())
>>> is_stuck_heap(turn, (0, 1, 2), trio), stuck_many(turn, (0, 1, 2)), stuck_many(either, (0, 1))
(True, 16, 4)
>>> twos = ((0, 1), (0, 2), (1, 2))
>>> least_missed(turn, twos), least_missed(turn, ((0, 1),)), least_missed(great, ((0, 1), (2,))), is_against(turn, twos, trio), is_against(great, twos, trio)
((0, 1, 2), (2,), None, True, False)
>>> fewest_changed(great, trio), fewest_changed(turn, wide), fewest_changed(great, wide)
(1, 1, 2)
>>> stuck_heap(great, (0, 1, 2))
raises CanNot()
"""

TURN, GREAT, LOOSE = rule_by("turn", 3), rule_by("greatest", 3), rule_by("all", 3)
TWOS = ((0, 1), (0, 2), (1, 2))
TRIO = ring((0, 1, 2))


def all_small():
    return [(m, rule) for m in (1, 2, 3) for rule in all_rules(m)]


def heaps_of_lot(m, lot):
    """All HEAPS without roots with one object in each area of lot, in their order."""
    for ties in product(subsets(range(len(lot))), repeat=len(lot)):
        yield (m, tuple(zip(lot, ties)), ())


def is_one_part(heap):
    return len(all_parts(heap)) == 1


def is_against_plainly(rule, course, heap):
    """Whether a HEAP without roots may stay as it is and has a foremost part that course never sweeps at once."""
    if heap[2] != () or not all(stays(rule, heap, one) for one in members(heap)):
        return False
    return any(not any(set(areas(heap, part)) <= set(lot) for lot in course) for part in foremost_parts(heap))


def tie_changes(heap, ties):
    """How many ties are in one of both alone."""
    return sum(len(set(own) ^ set(pair[1])) for own, pair in zip(ties, heap[1]))


class StuckTest(TestCase):

    def test_examples(self):
        check_examples(self, EXAMPLES, {**vars(errors), **vars(rules), **vars(heaps), **vars(stuck)})

    def test_who_stays(self):
        random = Random(141)
        for heap in some_heaps(150, 4, 7, 142) + great_heaps():
            for plain in (True, False):
                rule = random_rule(random, heap[0], plain)
                may = tuple(one for one in members(heap) if stays(rule, heap, one))
                must = tuple(one for one in members(heap)
                             if picks_at(rule, sight_of(heap, one)) == (heap[1][one][0],))
                self.assertEqual(may_stay(rule, heap), may)
                self.assertEqual(must_stay(rule, heap), must)
                self.assertEqual(is_stuck(rule, heap),
                                 len(may) == len(heap[1]) and lifeless(heap) == set(members(heap)))
        self.assertIs(is_stuck((), (1, (), ())), True)
        self.assertIs(is_stuck((), (1, ((0, ()),), (0,))), False)
        self.assertIs(is_stuck((), (1, ((0, ()),), ())), True)

    def test_what_a_weave_makes(self):
        for m, rule in all_small():
            for lot in lots(m):
                for weave in weaves(rule, lot) if len(lot) > 1 else []:
                    made = heap_of(rule, lot, weave)
                    self.assertEqual((made[0], made[2]), (m, ()))
                    self.assertEqual(tuple([area for area, _ in made[1]]), lot)
                    self.assertEqual(tuple([sight_of(made, one) for one in members(made)]), weave)
                    for one, far in product(members(made), repeat=2):
                        self.assertEqual(far in made[1][one][1], lot[one] in weave[far])
                    self.assertIs(is_stuck_heap(rule, lot, made), True)

    def test_stuck_heaps(self):
        for m, rule in all_small() + small_and_great_rules(143):
            for lot in lots(m)[::3] + lots(m)[-1:]:
                if len(lot) > 1 and is_woven_plainly(rule, lot):
                    made = stuck_heap(rule, lot)
                    self.assertEqual(made, heap_of(rule, lot, weave_of(rule, lot)))
                    self.assertIs(is_stuck_heap(rule, lot, made), True)
                    self.assertTrue(all(stays(rule, made, one) for one in members(made)))
                    self.assertEqual((made[0], made[2], areas(made, members(made))), (m, (), lot))
                    self.assertEqual(len(made[1]), len(lot))
                    self.assertTrue(is_one_part(made))
                else:
                    self.assertRaises(CanNot, stuck_heap, rule, lot)

    def test_stuck_heaps_by_trying_all(self):
        for m in (2, 3):
            for lot in [own for own in lots(m) if len(own) > 1]:
                whole = [heap for heap in heaps_of_lot(m, lot) if is_one_part(heap)]
                others = [heap for heap in heaps_of_lot(m, lot) if not is_one_part(heap)][::7]
                seen = [[sight_of(heap, one) for one in members(heap)] for heap in whole]
                for rule in all_rules(m)[::2]:
                    many = 0
                    for heap, sights in zip(whole, seen):
                        good = all(area in picks_at(rule, sight) for area, sight in zip(lot, sights))
                        many += good
                        self.assertIs(is_stuck_heap(rule, lot, heap), good)
                        if good:
                            self.assertIs(is_weave(rule, lot, tuple(sights)), True)
                    self.assertEqual(stuck_many(rule, lot), many)
                    for heap in others:
                        self.assertIs(is_stuck_heap(rule, lot, heap), False)

    def test_stuck_many_by_all_weaves(self):
        for m, rule in small_and_great_rules(144):
            for lot in lots(m) if m < 5 else lots(m)[::7]:
                if 1 < len(lot) < 5:
                    self.assertEqual(stuck_many(rule, lot), len(weaves(rule, lot)) * 2 ** len(lot))
        for rule in (rule_by("greatest", 6), rule_by("least", 6)):
            self.assertEqual(stuck_many(rule, (0, 1, 2, 3, 4, 5)), 0)
        # How many ways there are to draw arrows between so many points such that each is reached from each.
        for m, many in ((2, 1), (3, 18), (4, 1606), (5, 565080), (6, 734774776)):
            self.assertEqual(stuck_many(rule_by("all", m), tuple(range(m))), many << m)

    def test_the_objects_of_a_stuck_heap_may_have_any_order(self):
        heap = (3, ((2, (1,)), (0, (2,)), (1, (0,))), ())
        self.assertIs(is_stuck_heap(TURN, (0, 1, 2), heap), True)
        self.assertIs(is_stuck_heap(TURN, (0, 1), heap), False)
        self.assertIs(is_stuck_heap(TURN, (0, 1, 2), (4,) + heap[1:]), False)
        self.assertIs(is_stuck_heap(TURN, (0, 1, 2), (3, heap[1], (0,))), False)
        self.assertIs(is_stuck_heap(TURN, (0, 1, 2), (3, heap[1] + ((0, ()),), ())), False)
        self.assertIs(is_stuck_heap(TURN, (0, 1, 2), (3, (), ())), False)
        self.assertIs(is_stuck_heap(LOOSE, (0, 1), (3, ((0, ()), (1, ())), ())), False)

    def test_least_missed(self):
        random = Random(145)
        for m, rule in all_small() + small_and_great_rules(146):
            for _ in range(3):
                course = some_course(random, m, 4)
                missed = missed_by(rule, m, course)
                self.assertEqual(least_missed(rule, course), missed[0] if missed else None)

    def test_stuck_against(self):
        random = Random(147)
        for m, rule in all_small() + small_and_great_rules(148):
            for _ in range(3):
                course = some_course(random, m, 4)
                missed = missed_by(rule, m, course)
                if missed == []:
                    self.assertRaises(CanNot, stuck_against, rule, course)
                    continue
                made = stuck_against(rule, course)
                self.assertEqual(len(made[1]), len(missed[0]))
                self.assertIs(is_against(rule, course, made), True)
                self.assertTrue(is_against_plainly(rule, course, made))
                self.assertEqual(made[0], m)
                for lot in course:
                    part = [own for own in foremost_parts(made) if areas(made, own) == missed[0]][0]
                    self.assertFalse(set(part) & set(freed(made, lot)))

    def test_no_heap_of_fewer_objects_is_against(self):
        random = Random(149)
        small = {m: [heap for many in (0, 1, 2) for heap in all_heaps(m, many)] for m in (1, 2, 3)}
        for m, rule in all_small()[::3]:
            course = some_course(random, m, 3)
            fewest = len(stuck_against(rule, course)[1]) if least_missed(rule, course) else 3
            for heap in small[m]:
                good = is_against(rule, course, heap)
                self.assertIs(good, is_against_plainly(rule, course, heap))
                self.assertTrue(not good or len(heap[1]) >= fewest)

    def test_is_against_of_greater_heaps(self):
        random = Random(150)
        for heap in some_heaps(300, 4, 7, 151) + great_heaps():
            heap = (heap[0], heap[1], () if random.randrange(4) else heap[2])
            rule, course = random_rule(random, heap[0], False), some_course(random, heap[0], 3)
            self.assertIs(is_against(rule, course, heap), is_against_plainly(rule, course, heap))
            loose = rule_by("all", heap[0])
            self.assertIs(is_against(loose, course, heap), is_against_plainly(loose, course, heap))
        self.assertIs(is_against(TURN, TWOS, full_heap(2, 4, ())), False)
        for m in (2, 4):
            self.assertIs(is_against(TURN, ((2,),), (m, ((0, ()),), ())), False)
        self.assertIs(is_against(TURN, ((2,),), (3, ((0, ()),), ())), True)
        self.assertIs(is_against(TURN, ((2,),), (3, ((0, ()),), (0,))), False)
        self.assertIs(is_against(TURN, ((0,),), (3, ((1, ()),) * 300, ())), True)
        self.assertIs(is_against(TURN, ((1,),), (3, ((1, ()),) * 300, ())), False)

    def test_what_is_judged(self):
        check_things(self, lambda thing: is_stuck_heap(TURN, (0, 1, 2), thing), [TRIO])
        check_things(self, lambda thing: is_stuck_heap(LOOSE, (0, 1), thing), [(3, ((0, (1,)), (1, (0, 1))), ())])
        check_things(self, lambda thing: is_against(TURN, TWOS, thing), [TRIO, ring((0, 1, 2, 0, 1, 2))])
        check_things(self, lambda thing: is_against((), ((0,),), thing), [])

    def test_fewest_changed_by_trying_all(self):
        random = Random(152)
        for heap in some_heaps(40, 4, 3, 153) + [TRIO, ring((0, 0, 1)), ring((0, 1))]:
            m, many = heap[0], len(heap[1])
            found = list(product(subsets(range(many)), repeat=many))
            for rule in (random_rule(random, m, True), random_rule(random, m, False), rule_by("greatest", m)):
                fewest = None
                for ties in sorted(found, key=lambda own: tie_changes(heap, own)):
                    other = (m, tuple([(pair[0], own) for pair, own in zip(heap[1], ties)]), heap[2])
                    if all(stays(rule, other, one) for one in range(many)):
                        fewest = tie_changes(heap, ties)
                        break
                self.assertEqual(fewest_changed(rule, heap), fewest)

    def test_fewest_changed_of_great_heaps(self):
        for heap in great_heaps():
            self.assertEqual(fewest_changed(rule_by("all", heap[0]), heap), 0)
            # Where the greatest area is picked, ties from greater ones are the only ones in the way.
            ties = [(near, far) for near, pair in enumerate(heap[1]) for far in pair[1]]
            wrong = [(near, far) for near, far in ties if heap[1][near][0] > heap[1][far][0]]
            self.assertEqual(fewest_changed(rule_by("greatest", heap[0]), heap), len(wrong))
        self.assertEqual(fewest_changed((), (1, (), ())), 0)

    def test_a_tie_needs_an_object_to_be_tied(self):
        # With an object in area 1 one tie put in would do; without one both have to go.
        rule = tuple([(lot, (0,) if lot == (0, 1, 2) else picks) for lot, picks in rule_by("greatest", 4)])
        objects = ((0, ()), (2, (0,)), (2, (0,)), (3, ()))
        self.assertEqual(fewest_changed(rule, (4, objects, ())), 2)
        self.assertEqual(fewest_changed(rule, (4, objects[:3], ())), 2)
        self.assertEqual(fewest_changed(rule, (4, objects + ((1, ()),), ())), 1)

    def test_what_may_stay_has_nothing_to_change(self):
        random = Random(154)
        for heap in some_heaps(80, 3, 6, 155):
            rule = random_rule(random, heap[0], False)
            self.assertEqual(fewest_changed(rule, heap) == 0, len(may_stay(rule, heap)) == len(heap[1]))

    def test_what_holds_for_every_call(self):
        one = (1, ((0, (0,)),), ())
        for rule, heap, course in [(TURN, TRIO, TWOS), (LOOSE, TRIO, TWOS), ((), one, ((0,),)), ((), (1, (), ()), ((0,),)),
                                   (rule_by("turn", 6), great_heaps()[-1], ((0, 1, 2), (3,), (4, 5))),
                                   (GREAT, (3, TRIO[1], (0,)), ((0,), (1,), (2,)))]:
            check_call(self, may_stay, (rule, heap), "set")
            check_call(self, must_stay, (rule, heap), "set")
            check_call(self, is_stuck, (rule, heap), "bool")
            check_call(self, fewest_changed, (rule, heap), "int")
            check_call(self, least_missed, (rule, course), "set?")
            check_call(self, stuck_against, (rule, course), "tuple")
            check_call(self, is_against, (rule, course, heap), "bool")
            for lot in lots(heap[0])[-3:]:
                if len(lot) > 1:
                    check_call(self, stuck_heap, (rule, lot), "tuple")
                    check_call(self, stuck_many, (rule, lot), "int")
                    check_call(self, is_stuck_heap, (rule, lot, heap), "bool")
                    if is_woven(rule, lot):
                        check_call(self, heap_of, (rule, lot, weave_of(rule, lot)), "tuple")
