"""Section 11: rules."""

from itertools import permutations
from random import Random
from unittest import TestCase

from gatheryard import errors, rules
from gatheryard.errors import NoPlace, Unfit
from gatheryard.rules import (is_plain, is_rule, narrowed, number_of, picks_of, plain_at, plain_many, renamed,
                              renamings, rule_by, rule_in, unlike_at)
from tests.checks import NOTHINGS, check_call, check_examples, spoilt
from tests.makers import lots, random_rule, some_heaps, some_rules
from tests.plain import all_names, areas, freed_in, inside, members, plain_rules_within, rule_renamed, tied

EXAMPLES = """
>>> great, turn = rule_by("greatest", 3), rule_by("turn", 3)
>>> great, [own[1] for own in turn], [own[1] for own in rule_in((1, 2, 0))]
((((0, 1), (1,)), ((0, 1, 2), (2,)), ((0, 2), (2,)), ((1, 2), (2,))), [(1,), (0,), (0,), (2,)], [(0,), (0,), (0,), (2,)])
>>> picks_of(turn, (1, 2)), picks_of(turn, (1,)), narrowed(turn, (0, 2)), unlike_at(turn, great), is_rule((), 1)
((2,), (1,), (((0, 1), (0,)),), ((0, 1, 2), (0, 2)), True)
>>> renamed(great, (2, 1, 0)) == rule_by("least", 3), renamings(turn, turn), renamings(great, turn)
(True, [(0, 1, 2)], [])
>>> loose = rule_by("all", 3)
>>> plain_many(loose), number_of(loose, great), number_of(loose, turn), plain_at(loose, 0) == rule_by("least", 3), is_plain(loose)
(24, 23, 13, True, False)
>>> plain_at(turn, 1)
raises NoPlace(place=1)
>>> number_of(turn, great)
raises Unfit()
"""

WORDS = ("greatest", "least", "middle", "turn", "all")


def sights(m):
    return sorted(lot for lot in lots(m) if len(lot) > 1)


def picked(word, lot):
    """What a word picks of a LOT, by the document's table."""
    if word == "turn":
        left = sum(lot)
        while left >= len(lot):
            left -= len(lot)
        return (lot[left],)
    if word == "middle":
        return (lot[(len(lot) - 1) // 2],)
    return {"greatest": (max(lot),), "least": (min(lot),), "all": lot}[word]


def rules_for_tests():
    words = [(m, rule_by(word, m)) for m in range(1, 7) for word in WORDS]
    return words + some_rules(60, 4, 11) + some_rules(12, 6, 12)


def may_lie(heap, rule, lot):
    """Where each object may lie behind a sweep of lot by rule, object by object; () for what it frees."""
    found = []
    for one in members(heap):
        sight = areas(heap, [one] + [near for near in members(heap) if tied(heap, near, one)])
        if one in freed_in(heap, lot):
            found.append(())
        else:
            found.append(picks_of(rule, sight) if one in inside(heap, lot) else (heap[1][one][0],))
    return found


def is_rule_plainly(thing, m):
    """Whether a tuple of pairs of tuples of numbers is a RULE for m areas."""
    return ([own for own, _ in thing] == sights(m)
            and all(picks in lots(m) and set(picks) <= set(own) for own, picks in thing))


class RulesTest(TestCase):

    def test_examples(self):
        check_examples(self, EXAMPLES, {**vars(errors), **vars(rules)})

    def test_rule_by(self):
        for m in range(1, 8):
            for word in WORDS:
                self.assertEqual(rule_by(word, m), tuple((lot, picked(word, lot)) for lot in sights(m)))
                self.assertIs(is_rule(rule_by(word, m), m), True)
            for word in ("", "Greatest", "least ", "own", "any"):
                self.assertRaises(Unfit, rule_by, word, m)

    def test_rule_in(self):
        for m in range(1, 6):
            for order in all_names(m):
                wanted = tuple((lot, ([area for area in order if area in lot][-1],)) for lot in sights(m))
                self.assertEqual(rule_in(order), wanted)
        for order in ((), (1,), (0, 0), (0, 2), (-1, 0), (1, 2, 3), (0, 1, 1), (0, 1, 2, 3, 4, 6)):
            self.assertRaises(Unfit, rule_in, order)

    def test_picks_and_plain(self):
        for m, rule in rules_for_tests():
            self.assertIs(is_rule(rule, m), True)
            self.assertIs(is_plain(rule), {len(picks) for _, picks in rule} <= {1})
            for lot in lots(m):
                wanted = lot if len(lot) == 1 else [picks for own, picks in rule if own == lot][0]
                self.assertEqual(picks_of(rule, lot), wanted)

    def test_renamed(self):
        random = Random(113)
        for m, rule in rules_for_tests():
            names = tuple(random.sample(range(m), m))
            self.assertEqual(renamed(rule, names), rule_renamed(rule, names))
            self.assertIs(is_rule(renamed(rule, names), m), True)
            for wrong in (names + (m,), names[1:], (0,) * (m + 1), (m,) + names[1:], (-1,) + names[1:], ()):
                self.assertRaises(Unfit, renamed, rule, wrong)

    def test_what_a_rule_does_is_done_renamed(self):
        random = Random(115)
        for heap in some_heaps(60, 4, 7, 116):
            m = heap[0]
            rule, names = random_rule(random, m, False), random.sample(range(m), m)
            other = (m, tuple([(names[area], ties) for area, ties in heap[1]]), heap[2])
            for lot in lots(m):
                wanted = [tuple(sorted(names[area] for area in own)) for own in may_lie(heap, rule, lot)]
                called = tuple(sorted(names[area] for area in lot))
                self.assertEqual(may_lie(other, renamed(rule, names), called), wanted)

    def test_renamings_by_all_names(self):
        random = Random(114)
        for m, rule in rules_for_tests():
            if m > 5:
                continue
            others = [rule, rule_renamed(rule, random.sample(range(m), m)), random_rule(random, m, True)]
            for other in others:
                wanted = sorted(names for names in all_names(m) if rule_renamed(rule, names) == other)
                self.assertEqual(renamings(rule, other), wanted)

    def test_renamings_of_great_rules(self):
        self.assertEqual(renamings(rule_by("all", 6), rule_by("all", 6)), sorted(permutations(range(6))))
        self.assertEqual(renamings(rule_by("greatest", 6), rule_by("least", 6)), [(5, 4, 3, 2, 1, 0)])
        self.assertEqual(renamings(rule_by("all", 6), rule_by("least", 6)), [])
        self.assertEqual(renamings((), ()), [(0,)])

    def test_narrowed(self):
        for m, rule in rules_for_tests():
            for lot in lots(m)[:40]:
                wanted = tuple((tuple(lot.index(area) for area in own), tuple(lot.index(area) for area in picks))
                               for own, picks in rule if set(own) <= set(lot))
                self.assertEqual(narrowed(rule, lot), wanted)
                self.assertIs(is_rule(wanted, len(lot)), True)

    def test_unlike_at(self):
        found = rules_for_tests()
        for m, rule in found:
            for n, other in found[::7]:
                if m == n:
                    wanted = tuple(lot for lot in sights(m) if picks_of(rule, lot) != picks_of(other, lot))
                    self.assertEqual(unlike_at(rule, other), wanted)

    def test_plain_rules_within(self):
        for m, rule in rules_for_tests():
            if plain_many(rule) > 3000:
                continue
            within = plain_rules_within(rule)
            self.assertEqual(plain_many(rule), len(within))
            for number, own in list(enumerate(within))[::max(1, len(within) // 40)]:
                self.assertEqual(plain_at(rule, number), own)
                self.assertEqual(number_of(rule, own), number)
            self.assertEqual(plain_at(rule, len(within) - 1), within[-1])
            for number in (-1, len(within), 10 ** 40, -10 ** 40):
                with self.assertRaises(NoPlace) as caught:
                    plain_at(rule, number)
                self.assertEqual(caught.exception.place, number)

    def test_number_of_what_is_not_within(self):
        for m, rule in rules_for_tests():
            within = dict(rule)
            for lot in sights(m)[:10]:
                wrong = [area for area in lot if area not in within[lot]]
                if wrong:
                    first = plain_at(rule, 0)
                    other = tuple([(own, tuple(wrong[:1])) if own == lot else (own, pick) for own, pick in first])
                    self.assertRaises(Unfit, number_of, rule, other)
            if not is_plain(rule):
                self.assertRaises(Unfit, number_of, rule, rule)
        self.assertEqual(number_of((), ()), 0)
        self.assertEqual(plain_at((), 0), ())

    def test_great_rules_are_numbered(self):
        loose = rule_by("all", 6)
        many = 2 ** 15 * 3 ** 20 * 4 ** 15 * 5 ** 6 * 6
        self.assertEqual(plain_many(loose), many)
        self.assertEqual(number_of(loose, rule_by("greatest", 6)), many - 1)
        for number in (0, 1, many // 3, many - 2):
            self.assertEqual(number_of(loose, plain_at(loose, number)), number)

    def test_is_rule_by_trying_all(self):
        for thing in [(((0, 1), picks),) for picks in lots(3)] + [((own, (0,)),) for own in lots(3)]:
            for m in (1, 2, 3):
                self.assertIs(is_rule(thing, m), is_rule_plainly(thing, m), (thing, m))
        for m, rule in rules_for_tests():
            for n in range(1, 8):
                self.assertIs(is_rule(rule, n), n == m)
            for other in (rule[:-1], rule + rule[-1:], rule[::-1], rule[1:] + rule[:1], rule[:1] + rule):
                self.assertIs(is_rule(other, m), other == rule)

    def test_is_rule_judges_things(self):
        for m, rule in ((2, rule_by("all", 2)), (3, rule_by("turn", 3)), (3, rule_by("all", 3))):
            for bad in spoilt(rule):
                self.assertIs(is_rule(bad, m), False, bad)
        for m in (-10 ** 40, -1, 0, 1, 2, 3, 6, 64, 10 ** 40):
            for bad in NOTHINGS:
                self.assertIs(is_rule(bad, m), False, bad)
            self.assertIs(is_rule((), m), m == 1)
        self.assertIs(is_rule((((0, 1), (0, 1)), ((0, 1, 2), (3,)), ((0, 2), (0,)), ((1, 2), (2,))), 3), False)
        self.assertIs(is_rule((((0, 1), ()),), 2), False)
        self.assertIs(is_rule((((0, 1), (0,), (0,)),), 2), False)

    def test_is_rule_beyond_the_bounds(self):
        great = rule_by("greatest", 10)
        self.assertIs(is_rule(great, 10), True)
        self.assertIs(is_rule(great, 11), False)
        self.assertIs(is_rule(great[:-1] + (((8, 9), (7,)),), 10), False)

    def test_what_holds_for_every_call(self):
        for m, rule in [(1, ()), (3, rule_by("turn", 3)), (3, rule_by("all", 3)), (6, rule_by("middle", 6))]:
            other = rule_by("greatest", m)
            check_call(self, is_rule, (rule, m), "bool")
            check_call(self, is_plain, (rule,), "bool")
            for lot in lots(m)[::5]:
                check_call(self, picks_of, (rule, lot), "set")
                check_call(self, narrowed, (rule, lot), "tuple")
            for names in (tuple(range(m))[::-1], (), (0, 0)):
                check_call(self, renamed, (rule, names), "tuple")
                check_call(self, rule_in, (names,), "tuple")
            for word in WORDS + ("none",):
                check_call(self, rule_by, (word, m), "tuple")
            check_call(self, renamings, (rule, other), "list")
            check_call(self, renamings, (rule, rule), "list")
            check_call(self, unlike_at, (rule, other), "set")
            check_call(self, plain_many, (rule,), "int")
            for number in (0, 1, -1):
                check_call(self, plain_at, (rule, number), "tuple")
            check_call(self, number_of, (rule, other), "int")
            check_call(self, number_of, (rule_by("all", m), rule), "int")
