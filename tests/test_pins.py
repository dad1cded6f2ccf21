"""Section 21: pinned objects."""

from itertools import product
from random import Random
from unittest import TestCase

from gatheryard import errors, pins, rules
from gatheryard.chains import order_of, width
from gatheryard.errors import CanNot
from gatheryard.heaps import is_heap
from gatheryard.pins import (bare_lots, fewest_unpinned, greatest_pins, is_locked, is_pinned_heap, least_locked,
                             locked_lots, pinned_heap, pins_fine, width_with)
from gatheryard.rules import rule_by, rule_in
from tests.checks import check_call, check_examples, check_things
from tests.makers import (all_plain_rules, all_rules, lots, random_heap, random_rule, small_and_great_rules,
                          some_course, sparse_rule, subsets)
from tests.plain import (all_closed_in, all_parts, alive, areas, foremost_parts, freed_in, heap_of_stand,
                         is_woven_plainly, left_at, lifeless, members, picks_at, sight_of, stays, where_all_lie)

EXAMPLES = """
>>> great, turn = rule_by("greatest", 3), rule_by("turn", 3)
>>> ones, lone = ((0,), (1,), (2,)), (3, ((1, (1,)), (2, (0,))), ())
>>> locked_lots(great, ()), locked_lots(great, (1,)), locked_lots(great, (0,)), locked_lots(turn, ())
([], [(1, 2)], [(0, 1), (0, 1, 2), (0, 2)], [(0, 1, 2)])
>>> bare_lots(great, (2,), (0, 1, 2)), bare_lots(great, (0,), (0, 1)), is_locked(great, (2,), (1, 2))
([(0,), (0, 1)], [], False)
>>> is_pinned_heap(great, (1,), (1, 2), (lone, (0,))), is_pinned_heap(great, (1,), (1, 2), (lone, ()))
(True, False)
>>> pins_fine(great, (2,), ones), least_locked(great, (1,), ones), least_locked(great, (1,), ((0,), (1,)))
(True, (1, 2), (2,))
>>> greatest_pins(great, ones), greatest_pins(turn, ones), greatest_pins(turn, ((0, 1, 2),))
([(2,)], [], [(0, 1, 2)])
>>> fewest_unpinned(great, (1, 2), ones), width_with(great, (1,)), width_with(great, (0,)), width_with(turn, ()), width_with(great, ())
((1,), 2, 3, 3, 1)
>>> pinned_heap(great, (2,), (1, 2))
raises CanNot()
"""

GREAT, TURN = rule_by("greatest", 3), rule_by("turn", 3)
ONES = tuple([(area,) for area in range(6)])


def bare_plainly(rule, pinned, lot):
    """All LOTS but lot that are closed in within it and have no area that is pinned."""
    return [own for own in all_closed_in(rule, lot) if own != lot and not set(own) & set(pinned)]


def locked_plainly(rule, pinned, lot):
    return bare_plainly(rule, pinned, lot) == []


def open_lots(rule, m, pinned, course):
    """All LOTS of one area and locked ones that lie in no LOT of course, fewest areas first, then ascending."""
    return [lot for lot in lots(m) if (len(lot) == 1 or locked_plainly(rule, pinned, lot))
            and not any(set(lot) <= set(own) for own in course)]


def is_pinned_plainly(rule, pinned, lot, heap, held):
    """Whether held are just the objects in areas that are pinned, and these and who may stay are one part over lot."""
    if sorted(where_all_lie(heap)) != list(lot) or heap[2] != () or len(all_parts(heap)) != 1:
        return False
    if held != tuple([one for one in members(heap) if heap[1][one][0] in pinned]):
        return False
    return all(one in held or stays(rule, heap, one) for one in members(heap))


def heaps_over(m, lot):
    """All HEAPS without roots of one object an area of lot, in their order."""
    for ties in product(subsets(range(len(lot))), repeat=len(lot)):
        yield (m, tuple(zip(lot, ties)), ())


def ruled_pins(seed):
    """Triples (m, RULE, pins): all pins for few areas, some for more."""
    random = Random(seed)
    for m, rule in small_and_great_rules(seed):
        for pinned in (subsets(range(m)) if m < 4 else random.sample(subsets(range(m)), 3)):
            yield m, rule, pinned


def few_ruled_pins(seed, most):
    """The like of at most so many areas, fewer RULES of three areas."""
    found = [(m, rule, pinned) for m, rule, pinned in ruled_pins(seed) if m <= most]
    return [own for own in found if own[0] != 3][::2] + [own for own in found if own[0] == 3][::5]


def sweep_with(random, heap, rule, stand, held, lot):
    """The STAND behind a sweep, picks by chance, held objects where they are."""
    there = heap_of_stand(heap, stand)
    left = left_at(stand)
    gone = {left[one] for one in freed_in(there, lot)}
    found = list(stand)
    for at, one in enumerate(left):
        if one in gone:
            found[one] = None
        elif stand[one] in lot and one not in held:
            found[one] = random.choice(picks_at(rule, sight_of(there, at)))
    return tuple(found)


class PinsTest(TestCase):

    def test_examples(self):
        check_examples(self, EXAMPLES, {**vars(errors), **vars(rules), **vars(pins)})

    def test_locked_lots_by_all_that_are_closed_in(self):
        for m, rule, pinned in ruled_pins(211):
            found = []
            for lot in lots(m):
                if len(lot) > 1:
                    bare = bare_plainly(rule, pinned, lot)
                    self.assertEqual(bare_lots(rule, pinned, lot), bare)
                    self.assertIs(is_locked(rule, pinned, lot), bare == [])
                    if bare == []:
                        found.append(lot)
            self.assertEqual(locked_lots(rule, pinned), sorted(found))

    def test_no_pins_lock_what_is_woven_and_all_pins_lock_all(self):
        for m, rule in small_and_great_rules(212):
            great = sorted(lot for lot in lots(m) if len(lot) > 1)
            self.assertEqual(locked_lots(rule, ()), [lot for lot in great if is_woven_plainly(rule, lot)])
            self.assertEqual(locked_lots(rule, tuple(range(m))), great)
            self.assertEqual(width_with(rule, ()), width(rule))
            self.assertEqual(width_with(rule, tuple(range(m))), m)

    def test_more_pins_lock_more(self):
        for m, rule, pinned in few_ruled_pins(213, 5):
            for area in range(m):
                more = tuple(sorted({*pinned, area}))
                self.assertLessEqual(set(locked_lots(rule, pinned)), set(locked_lots(rule, more)))

    def test_pinned_heaps(self):
        for m, rule, pinned in ruled_pins(214):
            for lot in lots(m)[m::2]:
                if locked_plainly(rule, pinned, lot):
                    heap, held = pinned_heap(rule, pinned, lot)
                    self.assertIs(is_heap(heap), True)
                    self.assertEqual(heap[0], m)
                    self.assertTrue(is_pinned_plainly(rule, pinned, lot, heap, held), (rule, pinned, lot))
                    self.assertIs(is_pinned_heap(rule, pinned, lot, (heap, held)), True)
                else:
                    self.assertRaises(CanNot, pinned_heap, rule, pinned, lot)

    def test_is_pinned_heap_by_all_heaps_of_few_objects(self):
        for rule in all_rules(2) + all_plain_rules(3)[::5] + all_rules(3)[::190]:
            m = 2 if len(rule) == 1 else 3
            for pinned in subsets(range(m)):
                for lot in [own for own in lots(m) if len(own) == 2]:
                    some = False
                    for heap in heaps_over(m, lot):
                        for held in subsets(range(2)):
                            good = is_pinned_plainly(rule, pinned, lot, heap, held)
                            self.assertIs(is_pinned_heap(rule, pinned, lot, (heap, held)), good)
                            some = some or good
                    self.assertIs(is_locked(rule, pinned, lot), some)

    def test_lots_of_three_have_a_pinned_heap_exactly_if_they_are_locked(self):
        for rule in all_plain_rules(3)[::7] + [rule_by("all", 3)]:
            for pinned in ((), (0,), (2,), (0, 1)):
                held = tuple([area for area in range(3) if area in pinned])
                good = [is_pinned_heap(rule, pinned, (0, 1, 2), (heap, held)) for heap in heaps_over(3, (0, 1, 2))]
                self.assertIs(any(good), is_locked(rule, pinned, (0, 1, 2)))

    def test_is_pinned_heap_judges_things(self):
        lone = (3, ((1, (1,)), (2, (0,))), ())
        turned = (3, ((2, (0, 1)), (1, (0,))), ())
        check_things(self, lambda thing: is_pinned_heap(GREAT, (0, 1), (1, 2), thing), [(lone, (0,)), (turned, (1,))])
        for thing in [(lone, [0]), [lone, (0,)], (lone, (False,)), (lone, (0, 1)), (lone, (1,)), (lone, 0), (lone,),
                      ((2,) + lone[1:], (0,)), ((4,) + lone[1:], (0,)), (lone[:2] + ((0,),), (0,)),
                      ((3, ((1, (1,)), (2, ())), ()), (0,)), ((3, ((1, (0,)), (2, (1,))), ()), (0,)),
                      ((3, ((1, (1,)), (2, (2,)), (2, (0,))), ()), (0,)), ((3, ((0, (1,)), (2, (0,))), ()), (0,)),
                      ((3, ((1, (1,)), (2, (0,)), (0, ())), ()), (0,)), ((3, (), ()), ())]:
            self.assertIs(is_pinned_heap(GREAT, (1,), (1, 2), thing), False, thing)
        self.assertIs(is_pinned_heap(GREAT, (), (1, 2), (lone, ())), False)
        self.assertIs(is_pinned_heap(rule_by("all", 3), (), (1, 2), (lone, ())), True)

    def test_fine_pins_by_their_definition(self):
        random = Random(215)
        for m, rule, pinned in ruled_pins(216):
            for course in (some_course(random, m, 4), ONES[:m], (tuple(range(m)),)):
                missed = open_lots(rule, m, pinned, course)
                self.assertIs(pins_fine(rule, pinned, course), missed == [])
                self.assertEqual(least_locked(rule, pinned, course), missed[0] if missed else None)
                if missed == []:
                    self.assertEqual(fewest_unpinned(rule, pinned, course), ())

    def test_fine_pins_free_whatever_is_dead(self):
        random = Random(217)
        played = 0
        for m, rule, pinned in few_ruled_pins(218, 4):
            course = some_course(random, m, 3) + ONES[:m]
            if not pins_fine(rule, pinned, course):
                continue
            heap = random_heap(random, m, random.randint(1, 5), 30, 15)
            held = [one for one in members(heap) if heap[1][one][0] in pinned and random.randrange(3)]
            stand = where_all_lie(heap)
            for _ in range(400):
                for lot in course:
                    stand = sweep_with(random, heap, rule, stand, held, lot)
                if all(stand[one] is None for one in lifeless(heap)):
                    break
            self.assertEqual(set(left_at(stand)), alive(heap))
            played += 1
        self.assertGreater(played, 40)

    def test_what_is_locked_and_never_swept_at_once_stays_for_ever(self):
        random = Random(219)
        for m, rule, pinned in few_ruled_pins(220, 4):
            course = some_course(random, m, 3)
            lot = least_locked(rule, pinned, course)
            if lot is None:
                continue
            heap, held = pinned_heap(rule, pinned, lot) if len(lot) > 1 else ((m, ((lot[0], ()),), ()), ())
            self.assertEqual(foremost_parts(heap), [tuple(members(heap))])
            self.assertEqual(areas(heap, members(heap)), lot)
            for own in course:
                # Each may stay, so a sweep that frees none may leave all as it is.
                self.assertEqual(freed_in(heap, own), set())
                self.assertTrue(all(one in held or stays(rule, heap, one) for one in members(heap)))

    def test_greatest_pins_by_trying_all_sets(self):
        random = Random(221)
        for m, rule in small_and_great_rules(222):
            for course in (some_course(random, m, 4), ONES[:m] + some_course(random, m, 3)):
                fine = [own for own in subsets(range(m)) if open_lots(rule, m, own, course) == []]
                greatest = sorted(own for own in fine if not any(set(own) < set(other) for other in fine))
                self.assertEqual(greatest_pins(rule, course), greatest)
                if m > 4:
                    break

    def test_fewest_unpinned_by_trying_all_sets(self):
        random = Random(223)
        for m, rule, pinned in few_ruled_pins(224, 6):
            for course in (some_course(random, m, 4), ONES[:m] + some_course(random, m, 3), ONES[:m]):
                good = [struck for struck in sorted(subsets(pinned), key=lambda own: (len(own), own))
                        if open_lots(rule, m, tuple(sorted(set(pinned) - set(struck))), course) == []]
                if good:
                    self.assertEqual(fewest_unpinned(rule, pinned, course), good[0])
                else:
                    self.assertNotEqual(open_lots(rule, m, (), course), [])
                    self.assertRaises(CanNot, fewest_unpinned, rule, pinned, course)

    def test_width_with_pins(self):
        for m, rule, pinned in few_ruled_pins(225, 6):
            fine = [many for many in range(1, m + 1)
                    if open_lots(rule, m, pinned, [lot for lot in lots(m) if len(lot) <= many]) == []]
            self.assertEqual(width_with(rule, pinned), fine[0])

    def test_what_stands_last_in_the_order_may_be_pinned_alone(self):
        random = Random(226)
        for m in range(2, 7):
            order = tuple(random.sample(range(m), m))
            for rule in (rule_in(order), tuple([(lot, picks[:1]) for lot, picks in sparse_rule(random, m)])):
                if width(rule) == 1:
                    self.assertEqual(greatest_pins(rule, ONES[:m]), [(order_of(rule)[-1],)])
                    self.assertIs(pins_fine(rule, (), ONES[:m]), True)

    def test_smallest(self):
        self.assertEqual((locked_lots((), ()), locked_lots((), (0,))), ([], []))
        self.assertEqual((greatest_pins((), ((0,),)), width_with((), ()), width_with((), (0,))), ([(0,)], 1, 1))
        self.assertEqual((pins_fine((), (0,), ((0,),)), least_locked((), (), ((0,),))), (True, None))
        self.assertEqual(fewest_unpinned((), (0,), ((0,),)), ())
        two = rule_by("least", 2)
        self.assertEqual((fewest_unpinned(two, (), ONES[:2]), fewest_unpinned(two, (0, 1), ONES[:2])), ((), (1,)))
        self.assertEqual((greatest_pins(two, ((1,),)), least_locked(two, (), ((1,),))), ([], (0,)))
        self.assertRaises(CanNot, fewest_unpinned, two, (), ((1,),))
        self.assertRaises(CanNot, fewest_unpinned, TURN, (0, 1, 2), ONES[:3])
        self.assertRaises(CanNot, pinned_heap, GREAT, (), (0, 1, 2))

    def test_great_courses_are_quick(self):
        random = Random(227)
        for _ in range(3):
            rule = random_rule(random, 6, False)
            course = tuple([random.choice(lots(6)) for _ in range(6)]) + ONES
            greatest_pins(rule, course)
            self.assertEqual(greatest_pins(rule, course + (tuple(range(6)),)), [(0, 1, 2, 3, 4, 5)])

    def test_what_holds_for_every_call(self):
        random = Random(228)
        for m, rule in [(2, rule_by("all", 2)), (3, GREAT), (3, TURN), (4, sparse_rule(random, 4)),
                        (6, random_rule(random, 6, True)), (6, random_rule(random, 6, False))]:
            course = some_course(random, m, 5) + ONES[:m]
            for pinned in ((), tuple(range(m)), random.choice(subsets(range(m)))):
                lot = random.choice(lots(m)[m:])
                check_call(self, is_locked, (rule, pinned, lot), "bool")
                check_call(self, locked_lots, (rule, pinned), "list")
                check_call(self, bare_lots, (rule, pinned, lot), "list")
                check_call(self, pinned_heap, (rule, pinned, lot), "tuple")
                if is_locked(rule, pinned, lot):
                    check_call(self, is_pinned_heap, (rule, pinned, lot, pinned_heap(rule, pinned, lot)), "bool")
                check_call(self, is_pinned_heap, (rule, pinned, lot, None), "bool")
                check_call(self, pins_fine, (rule, pinned, course), "bool")
                check_call(self, least_locked, (rule, pinned, course), "set?")
                check_call(self, fewest_unpinned, (rule, pinned, course), "set")
                check_call(self, width_with, (rule, pinned), "int")
            check_call(self, greatest_pins, (rule, course), "list")
