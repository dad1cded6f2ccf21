"""Section 20: loose RULES."""

from collections import Counter
from random import Random
from unittest import TestCase

from gatheryard import errors, loose, rules, schedules
from gatheryard.chains import width
from gatheryard.errors import CanNot, TooMuch
from gatheryard.leads import is_woven
from gatheryard.loose import (freed_many, is_plain_freed, is_plain_missed, is_weaver, joined_rule, lies_within,
                              plain_freed, plain_missed, weaver, weavers_many, widths_within)
from gatheryard.counts import all_one_many, widths_many
from gatheryard.rules import is_plain, is_rule, number_of, plain_at, plain_many, rule_by
from gatheryard.schedules import count_freed, frees_all
from tests.checks import check_call, check_examples, check_things
from tests.makers import all_plain_rules, all_rules, lots, random_rule, some_course, sparse_rule, subsets
from tests.plain import chain_plainly, is_woven_plainly, partings, picks_at, plain_rules_within

EXAMPLES = """
>>> great = (((0, 1), (1,)), ((0, 1, 2), (2,)), ((0, 2), (2,)), ((1, 2), (2,)))
>>> round_about = (((0, 1), (1,)), ((0, 1, 2), (0,)), ((0, 2), (0,)), ((1, 2), (2,)))
>>> ones, whole = ((0,), (1,), (2,)), ((0, 1, 2),)
>>> any_two, back = (((0, 1), (0, 1)),), (((0, 1), (0,)), ((0, 1, 2), (1,)), ((0, 2), (0,)), ((1, 2), (1,)))
>>> any_three = joined_rule((great, round_about, back))
>>> any_three
(((0, 1), (0, 1)), ((0, 1, 2), (0, 1, 2)), ((0, 2), (0, 2)), ((1, 2), (1, 2)))
>>> frees_all(any_two, ((0,), (1,))), widths_within(any_two), plain_freed(any_two, ((0,), (1,)))[0][0], freed_many(any_two, ((0,), (1,)))
(False, (2, 0), (0, 1), 2)
>>> widths_within(any_three), weavers_many(any_three, (0, 1, 2)), weavers_many(any_three, (0, 1))
((12, 0, 12), 12, 0)
>>> is_weaver(any_three, (0, 1, 2), round_about), is_plain_missed(any_three, ones, round_about), is_plain_freed(any_three, ones, great)
(True, True, True)
>>> both = joined_rule((great, round_about))
>>> both[1:3], widths_within(both), freed_many(both, ones), lies_within(both, round_about), lies_within(round_about, both)
((((0, 1, 2), (0, 2)), ((0, 2), (0, 2))), (1, 0, 3), 1, True, False)
>>> freed_many(both, whole), freed_many(both, ((0, 1), (1,)))
(4, 0)
>>> plain_missed(any_two, ((0,), (1,)))
raises CanNot()
"""

GREAT = rule_by("greatest", 3)
ABOUT = (((0, 1), (1,)), ((0, 1, 2), (0,)), ((0, 2), (0,)), ((1, 2), (2,)))
ONES, WHOLE = ((0,), (1,), (2,)), ((0, 1, 2),)
ALL_CHAINS = {rule: chain_plainly(rule, m) for m in (1, 2, 3) for rule in all_plain_rules(m)}


def has(lot, course):
    return any(set(lot) <= set(own) for own in course)


def chain_to(rule, m):
    if rule not in ALL_CHAINS:
        ALL_CHAINS[rule] = chain_plainly(rule, m)
    return ALL_CHAINS[rule]


def freed_plainly(rule, m, course):
    return all(has(lot, course) for lot in chain_to(rule, m))


def loose_rules(seed):
    """RULES of few plain RULES: all for up to three areas, some for four."""
    random = Random(seed)
    found = [(m, rule) for m in (1, 2, 3) for rule in all_rules(m)]
    while len(found) < 215:
        rule = random_rule(random, 4, False)
        rule = tuple([(lot, picks[:random.choice((1, 1, 2))]) for lot, picks in rule])
        if plain_many(rule) <= 100:
            found.append((4, rule))
    return found


class LooseTest(TestCase):

    def test_examples(self):
        check_examples(self, EXAMPLES, {**vars(errors), **vars(rules), **vars(schedules), **vars(loose)})

    def test_lies_within(self):
        random = Random(201)
        for turn in range(300):
            m = random.randint(1, 4)
            rule, other = random_rule(random, m, False), random_rule(random, m, turn % 2 == 0)
            wanted = all(set(picks_at(other, lot)) <= set(picks_at(rule, lot)) for lot in lots(m))
            self.assertIs(lies_within(rule, other), wanted)
            self.assertIs(lies_within(rule_by("all", m), other), True)
            self.assertIs(lies_within(other, other), True)
            if is_plain(other):
                try:
                    number_of(rule, other)
                    self.assertTrue(wanted)
                except errors.Unfit:
                    self.assertFalse(wanted)

    def test_what_lies_within_is_no_wider(self):
        for m, rule in loose_rules(202)[::3]:
            for own in plain_rules_within(rule)[:8]:
                self.assertIs(lies_within(rule, own), True)
                self.assertLessEqual(width(own), width(rule))

    def test_joined_rules(self):
        random = Random(203)
        for _ in range(150):
            m = random.randint(1, 6)
            found = tuple([random_rule(random, m, False) for _ in range(random.randint(1, 4))])
            other = joined_rule(found)
            self.assertIs(is_rule(other, m), True)
            for lot in lots(m)[m:]:
                self.assertEqual(set(picks_at(other, lot)), {area for rule in found for area in picks_at(rule, lot)})
        self.assertEqual(joined_rule(((),)), ())

    def test_widths_by_all_plain_rules(self):
        for m, rule in loose_rules(204):
            widths = Counter(max(len(lot) for lot in chain_to(own, m)) for own in plain_rules_within(rule))
            self.assertEqual(widths_within(rule), tuple(widths[many] for many in range(1, m + 1)))

    def test_freed_many_by_all_plain_rules(self):
        random = Random(205)
        for m, rule in loose_rules(206):
            within = plain_rules_within(rule)
            for _ in range(3):
                course = some_course(random, m, 4)
                self.assertEqual(freed_many(rule, course), sum(freed_plainly(own, m, course) for own in within))

    def test_plain_rules_that_are_freed_or_missed(self):
        random = Random(207)
        for m, rule in loose_rules(208):
            within = plain_rules_within(rule)
            for _ in range(3):
                course = some_course(random, m, 4)
                freed = [own for own in within if freed_plainly(own, m, course)]
                if freed:
                    self.assertIn(plain_freed(rule, course), freed)
                else:
                    self.assertRaises(CanNot, plain_freed, rule, course)
                if len(freed) < len(within):
                    found = plain_missed(rule, course)
                    self.assertTrue(found in within and found not in freed)
                else:
                    self.assertRaises(CanNot, plain_missed, rule, course)
                for own in within[::5]:
                    self.assertIs(is_plain_freed(rule, course, own), own in freed)
                    self.assertIs(is_plain_missed(rule, course, own), own not in freed)
                other = random_rule(random, m, True)
                self.assertIs(is_plain_freed(rule, course, other), other in freed)
                self.assertIs(is_plain_missed(rule, course, other), other in within and other not in freed)

    def test_some_plain_rule_is_freed_if_the_areas_can_be_parted(self):
        random = Random(209)
        for m, rule in loose_rules(210)[::2]:
            course = some_course(random, m, 4)
            good = False
            for row in partings(tuple(range(m))):
                free = all(has(own, row) or set(picks_at(rule, own)) - set([lot for lot in row if set(lot) & set(own)][0])
                           for own in lots(m))
                good = good or free and all(has(lot, course) for lot in row)
            self.assertEqual(freed_many(rule, course) > 0, good)

    def test_weavers_by_all_plain_rules(self):
        for m, rule in loose_rules(211):
            within = plain_rules_within(rule)
            for lot in lots(m):
                woven = [own for own in within if is_woven_plainly(own, lot)]
                inner = [picks for own, picks in rule if set(own) <= set(lot)]
                others = len(within)
                for picks in inner:
                    others //= len(picks)
                self.assertEqual(weavers_many(rule, lot) * others, len(woven))
                if woven:
                    self.assertIn(weaver(rule, lot), woven)
                else:
                    self.assertRaises(CanNot, weaver, rule, lot)
                for own in within[::9]:
                    self.assertIs(is_weaver(rule, lot, own), own in woven)

    def test_no_lot_of_two_areas_is_woven_for_a_plain_rule(self):
        for m in (2, 3, 4):
            for lot in lots(m):
                if len(lot) < 3:
                    self.assertEqual(weavers_many(rule_by("all", m), lot), 0)
                    self.assertRaises(CanNot, weaver, rule_by("all", m), lot)

    def test_great_loose_rules(self):
        random = Random(212)
        for m in (1, 2, 3, 4, 5, 6):
            every = rule_by("all", m)
            self.assertEqual(widths_within(every), widths_many(m))
            for lot in lots(m)[::3]:
                self.assertEqual(weavers_many(every, lot), all_one_many(len(lot)) if len(lot) > 1 else 0)
            for _ in range(3):
                course = some_course(random, m, 12)
                self.assertEqual(freed_many(every, course), count_freed(m, course))
        for turn in range(20):
            m = random.randint(5, 6)
            rule = random.choice((sparse_rule(random, m), random_rule(random, m, False)))
            self.assertEqual(sum(widths_within(rule)), plain_many(rule))
            course = tuple([tuple(sorted(random.sample(range(m), m - 1))) for _ in range(4)])
            many = freed_many(rule, course)
            self.assertEqual(freed_many(rule, (tuple(range(m)),)), plain_many(rule))
            if many:
                found = plain_freed(rule, course)
                self.assertIs(is_plain_freed(rule, course, found), True)
                self.assertTrue(is_plain(found) and lies_within(rule, found) and frees_all(found, course))
            else:
                self.assertRaises(CanNot, plain_freed, rule, course)

    def test_great_rules_that_are_plain_already(self):
        random = Random(213)
        for _ in range(15):
            m = random.randint(3, 6)
            rule = random_rule(random, m, True)
            course = some_course(random, m, 9) + tuple([(area,) for area in range(m)])
            self.assertEqual(widths_within(rule), tuple([int(many == width(rule)) for many in range(1, m + 1)]))
            self.assertEqual(freed_many(rule, course), int(frees_all(rule, course)))
            for lot in lots(m)[::5]:
                self.assertEqual(weavers_many(rule, lot), int(is_woven(rule, lot)))

    def test_too_much_first_of_all(self):
        for m in (5, 6):
            for rule in (rule_by("all", m), rule_by("greatest", m), rule_by("turn", m)):
                for lot in ((0,), (0, 1), (0, 1, 2), tuple(range(m))):
                    self.assertRaises(TooMuch, weaver, rule, lot)
                for course in (((0,),), (tuple(range(m)),)):
                    self.assertRaises(TooMuch, plain_missed, rule, course)
            turn, course = rule_by("turn", m), ((0,),)
            self.assertIs(is_plain_missed(turn, course, turn), True)
            self.assertIs(is_weaver(turn, tuple(range(m)), turn), is_woven(turn, tuple(range(m))))
        every = rule_by("all", 4)
        self.assertIs(is_weaver(every, (0, 1, 2, 3), weaver(every, (0, 1, 2, 3))), True)
        self.assertIs(is_weaver(every, (0, 2, 3), weaver(every, (0, 2, 3))), True)
        threes = ((0, 1, 2), (0, 1, 3), (0, 2, 3), (1, 2, 3))
        self.assertIs(is_plain_missed(every, threes, plain_missed(every, threes)), True)
        self.assertRaises(CanNot, plain_missed, every, threes + ((0, 1, 2, 3),))

    def test_what_is_judged(self):
        both = joined_rule((GREAT, ABOUT))
        check_things(self, lambda thing: is_plain_freed(both, ONES, thing), [GREAT])
        check_things(self, lambda thing: is_plain_missed(both, ONES, thing), [ABOUT])
        check_things(self, lambda thing: is_weaver(both, (0, 1, 2), thing), [ABOUT])
        check_things(self, lambda thing: is_plain_freed((), ((0,),), thing), [()])
        check_things(self, lambda thing: is_plain_missed((), ((0,),), thing), [])
        check_things(self, lambda thing: is_weaver((), (0,), thing), [])
        self.assertIs(is_plain_freed(both, WHOLE, both), False)
        self.assertIs(is_plain_missed(both, ONES, both), False)
        self.assertIs(is_weaver(both, (0, 1, 2), both), False)
        self.assertIs(is_plain_freed(both, WHOLE, rule_by("least", 3)), False)
        self.assertIs(is_plain_freed(both, WHOLE, rule_by("greatest", 4)), False)

    def test_smallest(self):
        self.assertEqual((widths_within(()), freed_many((), ((0,),)), plain_freed((), ((0,),))), ((1,), 1, ()))
        self.assertEqual((weavers_many((), (0,)), lies_within((), ())), (0, True))
        self.assertRaises(CanNot, plain_missed, (), ((0,),))
        self.assertRaises(CanNot, weaver, (), (0,))
        self.assertEqual(plain_missed(GREAT, ((0,), (1,))), plain_at(GREAT, 0))

    def test_what_holds_for_every_call(self):
        random = Random(214)
        for m, rule in [(1, ()), (3, rule_by("all", 3)), (3, GREAT), (4, sparse_rule(random, 4)), (6, rule_by("all", 6)),
                        (5, rule_by("turn", 5))]:
            other = rule_by("greatest", m)
            check_call(self, lies_within, (rule, other), "bool")
            check_call(self, joined_rule, ((rule, other, rule),), "tuple")
            check_call(self, widths_within, (rule,), "tuple")
            for course in (tuple([(area,) for area in range(m)]), (tuple(range(m)),), ((0,),)):
                check_call(self, freed_many, (rule, course), "int")
                check_call(self, plain_freed, (rule, course), "tuple")
                check_call(self, plain_missed, (rule, course), "tuple")
                check_call(self, is_plain_freed, (rule, course, other), "bool")
                check_call(self, is_plain_missed, (rule, course, other), "bool")
            for lot in [own for own in subsets(range(m)) if own][::3]:
                check_call(self, weavers_many, (rule, lot), "int")
                check_call(self, weaver, (rule, lot), "tuple")
                check_call(self, is_weaver, (rule, lot, other), "bool")
