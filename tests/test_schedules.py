"""Section 19: COURSES that free all."""

from itertools import combinations, combinations_with_replacement, product
from random import Random
from unittest import TestCase

from gatheryard import errors, rounds, rules, schedules
from gatheryard.chains import chain_of, width
from gatheryard.errors import CanNot
from gatheryard.moves import moves_of
from gatheryard.rounds import is_course, lasting
from gatheryard.rules import is_plain, is_rule, rule_by
from gatheryard.schedules import (count_freed, courses_alike, demands, fewest_course, frees_all, is_fewest_course,
                                  is_parting_rule, lots_added, parting_rule)
from gatheryard.stuck import least_missed, stuck_against
from tests.checks import check_call, check_examples, check_things
from tests.makers import (all_heaps, all_plain_rules, all_rules, lots, random_rule, small_and_great_rules, some_course,
                          some_heaps, sparse_rule)
from tests.plain import chain_plainly, frees_all_plainly, where_all_lie

EXAMPLES = """
>>> great = (((0, 1), (1,)), ((0, 1, 2), (2,)), ((0, 2), (2,)), ((1, 2), (2,)))
>>> round_about = (((0, 1), (1,)), ((0, 1, 2), (0,)), ((0, 2), (0,)), ((1, 2), (2,)))
>>> ones, whole = ((0,), (1,), (2,)), ((0, 1, 2),)
>>> frees_all(great, ones), frees_all(round_about, ones), frees_all(round_about, whole), frees_all(great, ((0, 1), (1,)))
(True, False, True, False)
>>> demands((great,)), demands((great, round_about)), demands((great, (((0, 1), (0, 1)),) + great[1:]))
(((0,), (1,), (2,)), ((0, 1, 2),), ((0, 1), (2,)))
>>> len(fewest_course((great,), 2)), fewest_course((round_about,), 3), is_fewest_course((great,), 2, ((1, 2), (0, 1)))
(2, ((0, 1, 2),), True)
>>> lots_added(round_about, ones, 3), lots_added(great, ((0, 1),), 1), lots_added(great, ones, 1)
(1, 1, 0)
>>> [count_freed(3, own) for own in (ones, whole, ((0, 1), (2,)), ((0, 1),))]
[12, 24, 12, 0]
>>> courses_alike(3, ones, ((0, 1), (1, 2))), courses_alike(3, ones, whole), is_parting_rule(3, ones, whole, round_about)
(True, False, True)
>>> fewest_course((round_about,), 2)
raises CanNot()
"""

GREAT = rule_by("greatest", 3)
ABOUT = (((0, 1), (1,)), ((0, 1, 2), (0,)), ((0, 2), (0,)), ((1, 2), (2,)))
ONES, WHOLE = ((0,), (1,), (2,)), ((0, 1, 2),)


def has(lot, course):
    return any(set(lot) <= set(own) for own in course)


def fewest_plainly(m, most, good):
    """The fewest of the LOTS of at most most areas that are good together, by all sets of LOTS; None without."""
    small = [lot for lot in lots(m) if len(lot) <= most]
    for many in range(m + 2):
        if any(good(row) for row in combinations(small, many)):
            return many
    return None


def rule_sets(seed):
    """Rows of up to three RULES for one number of areas."""
    random = Random(seed)
    found = [(m, (rule,)) for m in (1, 2, 3) for rule in all_rules(m)[::4]]
    for turn in range(60):
        m = random.randint(2, 4)
        kinds = [random.choice((sparse_rule(random, m), random_rule(random, m, turn % 2 == 0)))
                 for _ in range(random.randint(1, 3))]
        found.append((m, tuple(kinds)))
    return found


class SchedulesTest(TestCase):

    @classmethod
    def setUpClass(cls):
        cls.chains = {m: [(rule, chain_plainly(rule, m)) for rule in all_plain_rules(m)] for m in (1, 2, 3)}
        cls.chains[4] = [(rule, chain_of(rule)) for rule in all_plain_rules(4)]

    def freed_by(self, m, course):
        """The numbers of the plain RULES for which course frees all."""
        return tuple([number for number, (_, chain) in enumerate(self.chains[m])
                      if all(has(lot, course) for lot in chain)])

    def test_examples(self):
        check_examples(self, EXAMPLES, {**vars(errors), **vars(rules), **vars(rounds), **vars(schedules)})

    def test_frees_all(self):
        random = Random(191)
        small = [(m, rule) for m in (1, 2, 3) for rule in all_rules(m)]
        for m, rule in small + small_and_great_rules(192):
            for _ in range(4):
                course = some_course(random, m, 5)
                good = all(has(lot, course) for lot in chain_plainly(rule, m))
                self.assertIs(frees_all(rule, course), good)
                self.assertIs(frees_all(rule, course), least_missed(rule, course) is None)
                if m < 5:
                    self.assertIs(frees_all_plainly(rule, m, course), good)

    def test_frees_all_in_play(self):
        random = Random(193)
        heaps = {m: [heap for many in (1, 2) for heap in all_heaps(m, many)][::3] for m in (1, 2, 3)}
        more = some_heaps(300, 5, 6, 194)
        for m in (1, 2, 3, 4, 5):
            for turn in range(12):
                rule = tuple([(lot, picks[:1]) for lot, picks in random.choice((
                    sparse_rule(random, m), random_rule(random, m, True)))])
                course = some_course(random, m, 4)
                found = heaps.get(m, [])[::7] + [heap for heap in more if heap[0] == m]
                if frees_all(rule, course):
                    self.assertTrue(all(lasting(heap, rule, course) == () for heap in found))
                else:
                    heap = stuck_against(rule, course)
                    self.assertNotEqual(lasting(heap, rule, course), ())

    def test_what_may_stay_is_never_freed(self):
        random = Random(195)
        for m, rule in small_and_great_rules(196):
            course = some_course(random, m, 3)
            if frees_all(rule, course):
                continue
            heap = stuck_against(rule, course)
            for lot in course:
                moves = moves_of(heap, rule, lot)
                self.assertTrue(all(area in own for area, own in zip(where_all_lie(heap), moves)))

    def test_loose_rules_free_all_whatever_is_picked(self):
        random = Random(197)
        for heap in some_heaps(60, 4, 5, 198):
            m = heap[0]
            rule = sparse_rule(random, m)
            course = tuple([lot for lot in chain_of(rule)])
            stand = where_all_lie(heap)
            for turn in range(400 * len(course)):
                moves = moves_of((m, tuple(zip(stand, [ties for _, ties in heap[1]])), heap[2]), rule,
                                 course[turn % len(course)])
                if () in moves:
                    break
                stand = tuple([random.choice(own) for own in moves])
            dead = [own for own in moves_of(heap, rule, tuple(range(m))) if own == ()]
            self.assertTrue(() in moves or dead == [])

    def test_demands(self):
        for m, found in rule_sets(199):
            every = {lot for rule in found for lot in chain_plainly(rule, m)}
            wanted = sorted(lot for lot in every if not any(set(lot) < set(other) for other in every))
            self.assertEqual(demands(found), tuple(wanted))
        six = (rule_by("greatest", 6), rule_by("least", 6), rule_by("turn", 6))
        self.assertEqual(demands(six[:2]), tuple([(area,) for area in range(6)]))

    def test_fewest_courses_by_all_sets_of_lots(self):
        for m, found in rule_sets(200):
            wanted = [chain_plainly(rule, m) for rule in found]
            for most in range(1, m + 2):
                fewest = fewest_plainly(m, most, lambda row: all(has(lot, row) for own in wanted for lot in own))
                if fewest is None:
                    self.assertRaises(CanNot, fewest_course, found, most)
                    self.assertIs(is_fewest_course(found, most, (tuple(range(m)),)), False)
                    continue
                course = fewest_course(found, most)
                self.assertEqual(len(course), fewest)
                self.assertTrue(is_course(course, m) and all(len(lot) <= most for lot in course))
                self.assertTrue(all(frees_all(rule, course) for rule in found))
                self.assertIs(is_fewest_course(found, most, course), True)
                self.assertIs(is_fewest_course(found, most, course + course[:1]), False)
                self.assertIs(is_fewest_course(found, most, course[1:]), False)

    def test_is_fewest_course_by_all_courses(self):
        for m, found in rule_sets(201)[:70]:
            if m > 3:
                continue
            for most in range(1, m + 1):
                good = [course for many in (1, 2) for course in product(lots(m), repeat=many)
                        if all(len(lot) <= most for lot in course)
                        and all(has(lot, course) for rule in found for lot in chain_plainly(rule, m))]
                fewest = min([len(course) for course in good], default=3)
                for many in (1, 2):
                    for course in product(lots(m), repeat=many):
                        self.assertIs(is_fewest_course(found, most, course),
                                      course in good and len(course) == fewest)

    def test_great_fewest_courses(self):
        pairs = [tuple([(lot, (lot[-1],) if not set(lot) <= set(own) else lot) for lot, _ in rule_by("all", 6)])
                 for own in ((0, 1), (2, 3), (4, 5))]
        self.assertEqual(demands(pairs), ((0, 1), (2, 3), (4, 5)))
        for most, many in ((1, None), (2, 3), (3, 3), (4, 2), (5, 2), (6, 1), (60, 1)):
            if many is None:
                self.assertRaises(CanNot, fewest_course, pairs, most)
            else:
                self.assertEqual(len(fewest_course(pairs, most)), many)
        single = (rule_by("greatest", 6),)
        self.assertEqual([len(fewest_course(single, most)) for most in range(1, 7)], [6, 3, 2, 2, 2, 1])
        for m in (5, 6):
            random = Random(m)
            for _ in range(10):
                found = tuple([sparse_rule(random, m) for _ in range(3)])
                most = max(width(rule) for rule in found)
                course = fewest_course(found, most)
                self.assertTrue(all(frees_all(rule, course) for rule in found))
                wanted, big = demands(found), [lot for lot in lots(m) if len(lot) == min(most, m)]
                for row in combinations_with_replacement(big, min(len(course) - 1, 2)):
                    self.assertFalse(all(has(lot, row) for lot in wanted))

    def test_is_fewest_course_judges_things(self):
        check_things(self, lambda thing: is_fewest_course((GREAT,), 2, thing), [((1, 2), (0, 1)), ((0, 2), (1,))])
        check_things(self, lambda thing: is_fewest_course((ABOUT, GREAT), 3, thing), [((0, 1, 2),)])
        check_things(self, lambda thing: is_fewest_course((ABOUT,), 2, thing), [])
        check_things(self, lambda thing: is_fewest_course(((),), 1, thing), [((0,),)])
        self.assertIs(is_fewest_course((GREAT,), 1, ((0,), (1,), (2,), (2,))), False)
        self.assertIs(is_fewest_course((GREAT,), 2, ((0, 1, 2),)), False)

    def test_lots_added(self):
        random = Random(202)
        small = [(m, rule) for m in (1, 2, 3) for rule in all_rules(m)[::2]]
        for m, rule in small + [(4, sparse_rule(random, 4)) for _ in range(30)]:
            course, chain = some_course(random, m, 2), chain_plainly(rule, m)
            for most in range(1, m + 2):
                fewest = fewest_plainly(m, most, lambda row: all(has(lot, course + row) for lot in chain))
                if fewest is None:
                    self.assertRaises(CanNot, lots_added, rule, course, most)
                else:
                    self.assertEqual(lots_added(rule, course, most), fewest)
                    self.assertEqual(fewest == 0, frees_all(rule, course))

    def test_lots_added_to_what_has_a_great_lot(self):
        # What is not told of at most so many areas may lie in the course already.
        self.assertEqual(lots_added(ABOUT, ((0, 1, 2),), 1), 0)
        self.assertRaises(CanNot, lots_added, ABOUT, ((0, 1), (1, 2)), 2)
        self.assertEqual(lots_added(rule_by("greatest", 6), ((0, 1, 2),), 2), 2)

    def test_count_freed_by_all_rules(self):
        random = Random(203)
        for m in (1, 2, 3):
            for many in (1, 2):
                for course in combinations_with_replacement(lots(m), many):
                    self.assertEqual(count_freed(m, course), len(self.freed_by(m, course)))
        for _ in range(25):
            course = some_course(random, 4, 4)
            self.assertEqual(count_freed(4, course), len(self.freed_by(4, course)))

    def test_great_counts(self):
        for m in (5, 6):
            every = 1
            for lot in lots(m):
                every *= len(lot)
            ones = tuple([(area,) for area in range(m)])
            self.assertEqual(count_freed(m, (tuple(range(m)),)), every)
            self.assertEqual(count_freed(m, ones[1:]), 0)
            narrow = 1
            for lot in lots(m):
                narrow *= max(1, len(lot) - 1)
            for area in range(m):
                narrow *= area + 1
            self.assertEqual(count_freed(m, ones), narrow)
            self.assertEqual(count_freed(m, ones + ((0, 1), (2, 4))), narrow)

    def test_courses_alike_by_all_rules(self):
        random = Random(204)
        for m in (1, 2, 3):
            courses = [course for many in (1, 2, 3) for course in combinations(lots(m), many)]
            freed = {course: self.freed_by(m, course) for course in courses}
            for course, other in combinations_with_replacement(courses[::1 if m < 3 else 2], 2):
                self.assertIs(courses_alike(m, course, other), freed[course] == freed[other])
        for _ in range(40):
            course, other = some_course(random, 4, 5), some_course(random, 4, 5)
            self.assertIs(courses_alike(4, course, other), self.freed_by(4, course) == self.freed_by(4, other))

    def test_parting_rules(self):
        random = Random(205)
        for turn in range(400):
            m = random.randint(1, 6)
            course, other = some_course(random, m, 6), some_course(random, m, 6)
            if turn % 4 == 0:
                course = course + tuple([(area,) for area in range(m)])
                other = other + (tuple(range(m)),)
            if courses_alike(m, course, other):
                self.assertRaises(CanNot, parting_rule, m, course, other)
                rule = random_rule(random, m, True)
                self.assertIs(is_parting_rule(m, course, other, rule), False)
            else:
                rule = parting_rule(m, course, other)
                self.assertIs(is_rule(rule, m) and is_plain(rule), True)
                self.assertNotEqual(frees_all(rule, course), frees_all(rule, other))
                self.assertIs(is_parting_rule(m, course, other, rule), True)
                self.assertIs(is_parting_rule(m, other, course, rule), True)

    def test_is_parting_rule_by_all_rules(self):
        random = Random(206)
        for m in (1, 2, 3):
            for _ in range(20):
                course, other = some_course(random, m, 3), some_course(random, m, 3)
                here, there = self.freed_by(m, course), self.freed_by(m, other)
                for number, (rule, _) in enumerate(self.chains[m]):
                    self.assertIs(is_parting_rule(m, course, other, rule), (number in here) != (number in there))
        check_things(self, lambda thing: is_parting_rule(3, ONES, WHOLE, thing), [ABOUT])
        check_things(self, lambda thing: is_parting_rule(3, ONES, ONES, thing), [])
        check_things(self, lambda thing: is_parting_rule(1, ((0,),), ((0,),), thing), [])
        check_things(self, lambda thing: is_parting_rule(2, ((0, 1),), ((0,),), thing), [(((0, 1), (0,)),)])
        self.assertIs(is_parting_rule(3, ONES, WHOLE, rule_by("all", 3)), False)

    def test_what_holds_for_every_call(self):
        for m, found in [(1, ((),)), (3, (GREAT, ABOUT)), (3, (GREAT, rule_by("all", 3), ABOUT)),
                         (6, (rule_by("greatest", 6), rule_by("middle", 6), rule_by("turn", 6)))]:
            rule, ones, whole = found[-1], tuple([(area,) for area in range(m)]), (tuple(range(m)),)
            check_call(self, demands, (found,), "set")
            for course, other in ((ones, whole), (ones, ones), (ones[1:] + whole, ones[:1])):
                check_call(self, frees_all, (rule, course), "bool")
                check_call(self, count_freed, (m, course), "int")
                check_call(self, courses_alike, (m, course, other), "bool")
                check_call(self, parting_rule, (m, course, other), "tuple")
                check_call(self, is_parting_rule, (m, course, other, found[0]), "bool")
                for most in (1, 2, 6):
                    check_call(self, fewest_course, (found, most), "tuple")
                    check_call(self, is_fewest_course, (found, most, course), "bool")
                    check_call(self, lots_added, (rule, course, most), "int")
