"""Section 18: rounds."""

from random import Random
from unittest import TestCase

from gatheryard import errors, moves, rounds, rules
from gatheryard.chains import width
from gatheryard.errors import TooMuch, Unfit
from gatheryard.heaps import is_heap
from gatheryard.moves import stands_of
from gatheryard.rounds import (freed_far, is_course, lasting, lasting_parts, round_stands, rounds_till, slow_ring,
                               stand_far, stand_round)
from gatheryard.rules import rule_by, rule_in
from tests.checks import NOTHINGS, check_call, check_examples, check_things
from tests.makers import (great_heaps, lots, random_rule, ring, ring_of_rings, some_course, some_heaps, sparse_rule,
                          subsets)
from tests.plain import all_ahead, all_dead_parts, areas, foremost_parts, lifeless, members, next_stand, where_all_lie

EXAMPLES = """
>>> pair = (3, ((0, (1,)), (1, (0,)), (1, (2,))), (2,))
>>> free = rule_by("all", 3)
>>> ring, ones = slow_ring(3), ((0,), (1,), (2,))
>>> ring, round_stands(ring, rule_by("greatest", 2), ones[:2], 2)
((2, ((1, (1,)), (0, (2,)), (0, (0,))), ()), [(1, 0, 0), (1, 1, 0), (None, None, None)])
>>> freed_far(ring, rule_by("greatest", 2), ones[:2]), rounds_till(ring, rule_by("greatest", 2), ones[:2]), stand_round(ring, rule_by("greatest", 2), ones[:2])
((4, 4, 4), 2, (2, 1))
>>> mill, three = rule_by("turn", 3), (3, ((0, (1,)), (1, (2,)), (2, (0,)), (2, ())), ())
>>> lasting(three, mill, ones), freed_far(three, mill, ones), lasting_parts(three, mill, ones)
((0, 1, 2), (None, None, None, 3), [(0, 1, 2)])
>>> stand_far(three, mill, ones, 10 ** 12), rounds_till(three, mill, ones), rounds_till(three, mill, ((0, 1, 2),))
((0, 1, 2, None), None, 1)
>>> stand_round(pair, free, ones)
raises Unfit()
"""

ONES = tuple([(area,) for area in range(6)])
PAIR = (3, ((0, (1,)), (1, (0,)), (1, (2,))), (2,))
UP = rule_by("greatest", 3)
# A RULE, a HEAP and a COURSE of one LOT that come to a STAND again behind 25 and 176 rounds.
TURNING = tuple([(lot, (int(pick),)) for (lot, _), pick in zip(
    rule_by("all", 6), "021000411311045122453220300500022251252115341523254453554")])
TURNED = ((0, 1, 2, 3, 4, 5),)
TOO_SLOW = (6, ((1, (3, 6, 7)), (5, (0, 7, 8, 9)), (0, (1, 8, 11)), (3, (2, 7, 9, 10)), (3, (10, 11)), (0, (4, 9)),
                (5, (5, 9, 11)), (3, (7, 8)), (1, ()), (1, (9, 10, 11)), (2, (6,)), (2, (10,))), (0, 1, 2, 3, 4, 5, 6))
# The same one round later.
JUST_SO = (6, tuple([(area, ties) for area, (_, ties) in zip((5, 0, 3, 1, 3, 0, 2, 3, 0, 0, 2, 0), TOO_SLOW[1])]),
           TOO_SLOW[2])


def round_behind(heap, rule, stand, course):
    for lot in course:
        stand = next_stand(heap, rule, stand, lot)
    return stand


def rounds_plainly(heap, rule, course):
    """The STANDS behind the rounds up to the one that comes again, and the number of its first time."""
    stands = [where_all_lie(heap)]
    while True:
        stand = round_behind(heap, rule, stands[-1], course)
        if stand in stands:
            return stands, stands.index(stand)
        stands.append(stand)


def played(seed, count):
    """HEAPS, each with a plain RULE and a COURSE."""
    random = Random(seed)
    for heap in some_heaps(count, 4, 7, seed + 1) + great_heaps()[::3] + [(1, (), ()), ring((0, 1, 2))]:
        m = heap[0]
        plain = random_rule(random, m, True)
        if random.randrange(3) == 0:
            plain = tuple([(lot, picks[:1]) for lot, picks in sparse_rule(random, m)])
        yield heap, plain, some_course(random, m, 5)


class RoundsTest(TestCase):

    def test_examples(self):
        check_examples(self, EXAMPLES, {**vars(errors), **vars(rules), **vars(moves), **vars(rounds)})

    def test_is_course(self):
        for m in range(-1, 4):
            for first in subsets(range(4)):
                for second in subsets(range(4)):
                    good = first in lots(m) and second in lots(m)
                    self.assertIs(is_course((first, second), m), good)
                self.assertIs(is_course((first,), m), first in lots(m))
            self.assertIs(is_course((), m), False)
        self.assertIs(is_course(((0,),) * 1000, 1), True)
        self.assertIs(is_course(((0, 99),), 100), True)
        check_things(self, lambda thing: is_course(thing, 3), [((0, 2), (1,)), ((0,),), ((0, 1),) * 4])
        for m in (-10 ** 30, 0, 1, 10 ** 30):
            for thing in (None, True, (), [], "", 7, ((),), ([0],), ((True,),), ((0, 0),), ((1, 0),)):
                self.assertIs(is_course(thing, m), False)
        self.assertTrue(all(is_course(thing, 2) is False for thing in NOTHINGS
                            if repr(thing) != "((0, 1), (0, 1), (0, 1), (0, 1))"))

    def test_round_stands(self):
        for heap, rule, course in played(181, 60):
            stands = [where_all_lie(heap)]
            for _ in range(5):
                stands.append(round_behind(heap, rule, stands[-1], course))
            for many in (0, 1, 5):
                self.assertEqual(round_stands(heap, rule, course, many), stands[:many + 1])
            self.assertEqual(len(round_stands(heap, rule, course, 60)), 61)

    def test_rounds_to_the_stand_that_comes_again(self):
        for heap, rule, course in played(182, 100):
            stands, again = rounds_plainly(heap, rule, course)
            length = len(stands) - again
            self.assertEqual(stand_round(heap, rule, course), (again, length))
            for many in (0, 1, len(course), 2 * len(course) + 1, 7 * len(course) - 1):
                stand = where_all_lie(heap)
                for turn in range(many):
                    stand = next_stand(heap, rule, stand, course[turn % len(course)])
                self.assertEqual(stand_far(heap, rule, course, many), stand)
            for many in (10 ** 12, 10 ** 12 - 1):
                turns, more = divmod(many, len(course))
                stand = stands[again + (turns - again) % length]
                for lot in course[:more]:
                    stand = next_stand(heap, rule, stand, lot)
                self.assertEqual(stand_far(heap, rule, course, many), stand)

    def test_what_is_freed_at_last(self):
        for heap, rule, course in played(183, 100):
            stands, again = rounds_plainly(heap, rule, course)
            last, gone = stands[-1], lifeless(heap)
            left = tuple([one for one in sorted(gone) if last[one] is not None])
            self.assertEqual(lasting(heap, rule, course), left)
            ends = [many for many, stand in enumerate(stands) if all(stand[one] is None for one in gone)]
            self.assertEqual(rounds_till(heap, rule, course), ends[0] if ends else None)
            when = [None] * len(heap[1])
            stand = where_all_lie(heap)
            for turn in range(len(stands) * len(course)):
                stand = next_stand(heap, rule, stand, course[turn % len(course)])
                for one in members(heap):
                    if stand[one] is None and when[one] is None:
                        when[one] = turn + 1
            self.assertEqual(freed_far(heap, rule, course), tuple(when))
            parts = [part for part in all_dead_parts(heap) if part[0] in left
                     and not any(near in left and near not in part for near in all_ahead(heap, part[0]))]
            self.assertEqual(lasting_parts(heap, rule, course), parts)

    def test_slow_rings(self):
        for many in range(2, 30):
            heap = slow_ring(many)
            self.assertIs(is_heap(heap), True)
            self.assertEqual(heap[1], ((1, (1,)),) + tuple([(0, ((one + 1) % many,)) for one in range(1, many)]))
            self.assertEqual((heap[0], heap[2]), (2, ()))
            self.assertEqual(rounds_till(heap, rule_by("greatest", 2), ONES[:2]), many - 1)

    def test_greatest_frees_all_of_many_in_one_round_less(self):
        for heap in some_heaps(120, 6, 8, 184):
            many, course = len(lifeless(heap)), ONES[:heap[0]]
            till = rounds_till(heap, rule_by("greatest", heap[0]), course)
            self.assertLessEqual(till, max(many - 1, min(many, 1)))

    def test_rules_of_width_one_free_all(self):
        random = Random(185)
        for heap in some_heaps(150, 5, 7, 186) + [ring((0, 1, 2, 3, 4)), ring_of_rings()]:
            m = heap[0]
            rule = rule_in(tuple(random.sample(range(m), m)))
            self.assertEqual(width(rule), 1)
            course = some_course(random, m, 4) + tuple(random.sample(ONES[:m], m))
            self.assertEqual(lasting(heap, rule, course), ())
            till = rounds_till(heap, rule, course)
            when = freed_far(heap, rule, course)
            for part in foremost_parts(heap):
                bound = (len(areas(heap, part)) - 1) * (len(part) - 1) + 1
                self.assertLessEqual(when[part[0]], bound * len(course))
            self.assertIs(till is None, False)

    def test_two_hundred_rounds_and_no_more(self):
        functions = [(stand_round, ()), (stand_far, (0,)), (stand_far, (10 ** 12,)), (freed_far, ()), (rounds_till, ()),
                     (lasting, ()), (lasting_parts, ())]
        self.assertEqual(stand_round(JUST_SO, TURNING, TURNED), (24, 176))
        for function, more in functions:
            function(JUST_SO, TURNING, TURNED, *more)
            self.assertRaises(TooMuch, function, TOO_SLOW, TURNING, TURNED, *more)
        stands, again = rounds_plainly(TOO_SLOW, TURNING, TURNED)
        self.assertEqual((again, len(stands) - again), (25, 176))
        self.assertEqual(round_stands(TOO_SLOW, TURNING, TURNED, 60), stands[:61])
        self.assertEqual(stand_far(JUST_SO, TURNING, TURNED, 10 ** 12), stands[25 + (10 ** 12 - 24) % 176])
        # Two LOTS a round: as many sweeps come again behind half as many rounds.
        self.assertEqual(sum(stand_round(TOO_SLOW, TURNING, TURNED * 2)), 13 + 88)

    def test_rules_that_are_not_plain_or_for_other_areas_are_unfit_first(self):
        loose, course = rule_by("all", 3), ONES[:3]
        wrong = (loose, UP[:3] + loose[3:], (), UP[:3], UP + UP[:1], rule_by("greatest", 2), rule_by("greatest", 4))
        for rule in wrong:
            for function, more in [(round_stands, (2,)), (round_stands, (0,)), (stand_round, ()), (stand_far, (0,)),
                                   (freed_far, ()), (rounds_till, ()), (lasting, ()), (lasting_parts, ())]:
                self.assertRaises(Unfit, function, PAIR, rule, course, *more)
        self.assertRaises(Unfit, stand_round, TOO_SLOW, rule_by("all", 6), TURNED)
        self.assertRaises(Unfit, stand_far, TOO_SLOW, UP, TURNED, 5)

    def test_smallest(self):
        none, course = (1, (), ()), ((0,),)
        self.assertEqual((stand_round(none, (), course), rounds_till(none, (), course)), ((0, 1), 0))
        self.assertEqual((freed_far(none, (), course), lasting(none, (), course), lasting_parts(none, (), course)),
                         ((), (), []))
        self.assertEqual((round_stands(none, (), course, 0), stand_far(none, (), course, 10 ** 12)), ([()], ()))
        alive = (3, PAIR[1], (0, 1, 2))
        self.assertEqual((rounds_till(alive, UP, ONES[:3]), lasting(alive, UP, ONES[:3])), (0, ()))
        dead = (1, ((0, (0,)),), ())
        self.assertEqual((stand_round(dead, (), course), freed_far(dead, (), course)), ((1, 1), (1,)))
        self.assertEqual((rounds_till(dead, (), course), stand_far(dead, (), course, 0)), (1, (0,)))

    def test_areas_that_are_never_swept(self):
        heap = (2, ((0, ()), (1, ())), ())
        rule = rule_by("greatest", 2)
        self.assertEqual((lasting(heap, rule, ((1,),)), rounds_till(heap, rule, ((1,),))), ((0,), None))
        self.assertEqual((freed_far(heap, rule, ((1,),)), lasting_parts(heap, rule, ((1,),))), ((None, 1), [(0,)]))

    def test_twelve_lots_and_twelve_objects(self):
        random = Random(187)
        for heap in great_heaps():
            rule = random_rule(random, heap[0], True)
            course = tuple([random.choice(lots(heap[0])) for _ in range(12)])
            many, length = stand_round(heap, rule, course)
            stands = stands_of(heap, rule, course * (many + length))
            self.assertEqual(stands[many * 12], stands[-1])
            self.assertEqual(stand_far(heap, rule, course, (many + length) * 12), stands[-1])
            self.assertEqual(stand_far(heap, rule, course, many * 12 + length * 12 * 10 ** 9), stands[-1])

    def test_what_holds_for_every_call(self):
        for heap, rule, course in list(played(188, 6)) + [(PAIR, UP, ONES[:3]), (PAIR, rule_by("all", 3), ONES[:3]),
                                                          (TOO_SLOW, TURNING, TURNED)]:
            check_call(self, is_course, (course, heap[0]), "bool")
            for many in (0, 3):
                check_call(self, round_stands, (heap, rule, course, many), "list")
            check_call(self, stand_round, (heap, rule, course), "tuple")
            for many in (0, 5, 10 ** 12):
                check_call(self, stand_far, (heap, rule, course, many), "tuple")
            check_call(self, freed_far, (heap, rule, course), "tuple")
            check_call(self, rounds_till, (heap, rule, course), "int?")
            check_call(self, lasting, (heap, rule, course), "set")
            check_call(self, lasting_parts, (heap, rule, course), "list")
        for many in (2, 3, 12):
            check_call(self, slow_ring, (many,), "tuple")
