"""Section 16: mends."""

from itertools import permutations
from random import Random
from unittest import TestCase

from gatheryard import counts, errors, mends, rules
from gatheryard.chains import chain_of, width
from gatheryard.errors import CanNot, Unfit
from gatheryard.mends import (change_orders, changes_row, changes_within, fewest_changes, floor_of, is_floor,
                              is_mended, mended, order_changes, safe_picks, widths_by_one)
from gatheryard.rules import is_plain, is_rule, plain_many, rule_by, rule_in
from tests.checks import check_call, check_examples, check_things
from tests.makers import all_plain_rules, all_rules, lots, random_rule, sparse_rule
from tests.plain import (chain_plainly, is_wide, offends, partings, plain_rules_within, unlike, with_picks)

EXAMPLES = """
>>> ring = (((0, 1), (1,)), ((0, 1, 2), (0,)), ((0, 2), (0,)), ((1, 2), (2,)))
>>> order_changes(ring, (0, 1, 2)), fewest_changes(ring, 1), changes_row(ring), change_orders(ring)
(((0, 1, 2), (0, 2)), 1, (1, 1, 0), [(1, 2, 0), (2, 0, 1)])
>>> is_mended(ring, 1, (((0, 1), (0,)),) + ring[1:]), is_mended(ring, 1, ring[:3] + (((1, 2), (1,)),)), is_mended(ring, 3, ring)
(True, True, True)
>>> is_mended(ring, 1, order_rule(3, 0)), safe_picks(ring), widths_by_one(ring)
(False, (((0, 1), (1,)), ((0, 1, 2), (0, 1, 2)), ((0, 2), (0, 2)), ((1, 2), (2,))), (1, 3))
>>> floor_of(ring), is_floor(ring, (0,) * 7), is_floor(ring, (0, 0, 2, 0, 0, 0, 0))
((0, 0, 1, 0, 0, 0, 0), True, False)
>>> all_picks = tuple([(lot, lot) for lot, picks in ring])
>>> changes_within(ring, all_picks), changes_within(ring, ring[:1] + all_picks[1:]), changes_within(ring, ring[:1] + all_picks[1:3] + ring[3:])
(1, 1, 2)
>>> changes_within(ring, ring)
raises CanNot()
"""

RING = (((0, 1), (1,)), ((0, 1, 2), (0,)), ((0, 2), (0,)), ((1, 2), (2,)))


def small_plain():
    return [(m, rule) for m in (1, 2, 3) for rule in all_plain_rules(m)]


def great_plain(seed, each):
    """Plain RULES for four areas and more, of each kind."""
    random = Random(seed)
    found = [(m, random_rule(random, m, True)) for m in (4, 5, 6) for _ in range(each)]
    for m in (4, 5, 6):
        own = [sparse_rule(random, m) for _ in range(each)]
        found += [(m, tuple([(lot, picks[:1]) for lot, picks in rule])) for rule in own]
    return found + [(m, rule_by(word, m)) for m in (4, 5, 6) for word in ("turn", "greatest", "middle")]


def picking(rule, lot, area):
    """How many LOTS of two or more within lot pick area."""
    return sum(set(own) <= set(lot) and picks == (area,) for own, picks in rule)


def floor_plainly(rule, m):
    """The greatest numbers that a FLOOR may have, LOT by LOT."""
    best = {}
    for lot in lots(m):
        best[lot] = min([picking(rule, lot, area) + best[tuple([own for own in lot if own != area])] for area in lot]
                        if len(lot) > 1 else [0])
    return tuple([best[lot] for lot in sorted(lots(m))])


def is_floor_plainly(rule, m, numbers):
    told = dict(zip(sorted(lots(m)), numbers))
    for lot, number in told.items():
        if len(lot) == 1 and number != 0:
            return False
        for area in lot if len(lot) > 1 else ():
            if number > picking(rule, lot, area) + told[tuple([own for own in lot if own != area])]:
                return False
    return True


class MendsTest(TestCase):

    @classmethod
    def setUpClass(cls):
        cls.widths = {m: [(rule, is_wide(rule, m)) for rule in all_plain_rules(m)] for m in (1, 2, 3)}
        cls.widths[4] = [(rule, width(rule)) for rule in all_plain_rules(4)]

    def test_examples(self):
        check_examples(self, EXAMPLES, {**vars(errors), **vars(rules), **vars(counts), **vars(mends)})

    def test_order_changes(self):
        for m, rule in small_plain() + great_plain(161, 3):
            for order in list(permutations(range(m)))[::1 if m < 4 else 37]:
                row = tuple([(area,) for area in order])
                wanted = tuple([lot for lot, picks in rule if offends(row, lot, picks)])
                self.assertEqual(order_changes(rule, order), wanted)
                self.assertEqual(wanted, tuple([lot for lot, picks in rule
                                                if [area for area in order if area in lot][0] == picks[0]]))

    def test_order_changes_is_unfit(self):
        for order in ((), (0, 1), (0, 1, 1), (0, 1, 3), (0, 1, 2, 2), (0, 1, 2, 3), (-1, 0, 1), (1, 2, 3)):
            self.assertRaises(Unfit, order_changes, RING, order)
        for order in ((), (1,), (0, 0), (0, 1)):
            self.assertRaises(Unfit, order_changes, (), order)
        self.assertEqual(order_changes((), (0,)), ())

    def test_fewest_changes_by_all_rules(self):
        for m in (1, 2, 3, 4):
            for rule, _ in self.widths[m][::1 if m < 4 else 2999]:
                row = []
                for most in range(1, m + 1):
                    fewest = min(unlike(rule, other) for other, wide in self.widths[m] if wide <= most)
                    self.assertEqual(fewest_changes(rule, most), fewest)
                    row.append(fewest)
                self.assertEqual(changes_row(rule), tuple(row))

    def test_fewest_changes_by_all_rows(self):
        for m, rule in great_plain(162, 2):
            if m > 5:
                continue
            fewest = {most: 99 for most in range(1, m + 1)}
            for row in partings(tuple(range(m))):
                wide = max(len(lot) for lot in row)
                many = sum(offends(row, lot, picks) for lot, picks in rule)
                for most in range(wide, m + 1):
                    fewest[most] = min(many, fewest[most])
            self.assertEqual(changes_row(rule), tuple(fewest.values()))

    def test_change_orders(self):
        for m, rule in small_plain() + great_plain(163, 2):
            if m > 5:
                continue
            many = {order: len(order_changes(rule, order)) for order in permutations(range(m))}
            fewest = min(many.values())
            self.assertEqual(change_orders(rule), sorted(order for order in many if many[order] == fewest))
            self.assertEqual(fewest_changes(rule, 1), fewest)

    def test_whatever_the_changed_lots_pick_outside_the_width_is_kept(self):
        random = Random(164)
        for m, rule in great_plain(165, 2):
            for order in change_orders(rule)[:2]:
                other = rule
                for lot in order_changes(rule, order):
                    first = [area for area in order if area in lot][0]
                    other = with_picks(other, lot, (random.choice([area for area in lot if area != first]),))
                self.assertEqual(width(other), 1)
                self.assertIs(is_mended(rule, 1, other), True)

    def test_mended(self):
        for m, rule in small_plain() + great_plain(166, 4):
            for most in range(1, m + 1):
                other = mended(rule, most)
                self.assertIs(is_rule(other, m) and is_plain(other), True)
                self.assertLessEqual(is_wide(other, m), most)
                self.assertEqual(unlike(rule, other), fewest_changes(rule, most))
                self.assertIs(is_mended(rule, most, other), True)

    def test_is_mended_by_all_rules(self):
        for m in (1, 2, 3):
            for rule, _ in self.widths[m]:
                for most in range(1, m + 1):
                    fewest = fewest_changes(rule, most)
                    for other, wide in self.widths[m]:
                        self.assertIs(is_mended(rule, most, other), wide <= most and unlike(rule, other) == fewest)
                    for other in all_rules(m)[::7]:
                        self.assertTrue(is_plain(other) or is_mended(rule, most, other) is False)

    def test_is_mended_judges_things(self):
        check_things(self, lambda thing: is_mended(RING, 1, thing),
                     [(((0, 1), (0,)),) + RING[1:], RING[:3] + (((1, 2), (1,)),)])
        check_things(self, lambda thing: is_mended((((0, 1), (0,)),), 1, thing), [(((0, 1), (0,)),)])
        check_things(self, lambda thing: is_mended((), 1, thing), [()])

    def test_changes_within_by_all_rules(self):
        random = Random(167)
        for m in (1, 2, 3):
            narrow = [rule for rule, wide in self.widths[m] if wide == 1]
            for loose in all_rules(m):
                within = dict(loose)
                fit = [rule for rule in narrow if all(picks[0] in within[lot] for lot, picks in rule)]
                for rule, _ in random.sample(self.widths[m], min(3, len(self.widths[m]))):
                    if fit:
                        self.assertEqual(changes_within(rule, loose), min(unlike(rule, other) for other in fit))
                    else:
                        self.assertRaises(CanNot, changes_within, rule, loose)

    def test_changes_within_greater_rules(self):
        random = Random(168)
        narrow = [rule for rule, wide in self.widths[4] if wide == 1]
        for turn in range(12):
            loose = tuple([(lot, tuple(sorted(set(random.choices(lot, k=3))))) for lot, _ in rule_by("all", 4)])
            rule = random_rule(random, 4, True)
            within = dict(loose)
            fit = [own for own in narrow if all(picks[0] in within[lot] for lot, picks in own)]
            if fit:
                self.assertEqual(changes_within(rule, loose), min(unlike(rule, own) for own in fit))
            else:
                self.assertRaises(CanNot, changes_within, rule, loose)
        for m, rule in great_plain(169, 3):
            self.assertEqual(changes_within(rule, rule_by("all", m)), fewest_changes(rule, 1))
            only = rule_in(tuple(random.sample(range(m), m)))
            self.assertEqual(changes_within(rule, only), unlike(rule, only))
            if width(rule) > 1:
                self.assertRaises(CanNot, changes_within, rule, rule)
            else:
                self.assertEqual(changes_within(rule, rule), 0)

    def test_floors(self):
        random = Random(170)
        for m, rule in small_plain() + great_plain(171, 3):
            floor = floor_of(rule)
            self.assertEqual(floor, floor_plainly(rule, m))
            at = sorted(lots(m)).index(tuple(range(m)))
            self.assertEqual(floor[at], fewest_changes(rule, 1))
            self.assertIs(is_floor(rule, floor), True)
            for turn in range(20):
                other = list(floor)
                for _ in range(random.randint(1, 3)):
                    other[random.randrange(len(other))] += random.choice((-2, -1, 1, 1))
                good = is_floor_plainly(rule, m, other)
                self.assertIs(is_floor(rule, tuple(other)), good)
                self.assertTrue(not good or other[at] <= fewest_changes(rule, 1))

    def test_is_floor_judges_things(self):
        check_things(self, lambda thing: is_floor((), thing), [(0,)])
        self.assertIs(is_floor(RING, (0, 0, 1, 0, 0, 0, 0)), True)
        for wrong in ([0] * 7, (0,) * 6, (0,) * 8, (0, 0, True, 0, 0, 0, 0), (False, 0, 0, 0, 0, 0, 0), (1,) + (0,) * 6,
                      (-1,) + (0,) * 6, (0, None) + (0,) * 5, (0, "0") + (0,) * 5, (0, (0,)) + (0,) * 5, None, 7, "",
                      (0, 0, 1, 0, 0, 0, [0])):
            self.assertIs(is_floor(RING, wrong), False, wrong)
        self.assertIs(is_floor(RING, (0, -5, -10 ** 30, 0, 0, -1, 0)), True)
        self.assertIs(is_floor(RING, (0, -1, 1, 0, 0, 0, 0)), False)
        self.assertIs(is_floor(RING, (0, 0, 10 ** 30, 0, 0, 0, 0)), False)
        self.assertIs(is_floor((), (1,)), False)
        self.assertIs(is_floor((), (-1,)), False)

    def test_safe_picks_and_widths_by_one(self):
        for m, rule in small_plain() + great_plain(172, 1):
            chain, safe, wide = chain_plainly(rule, m), [], set()
            looked_at = rule if m < 6 else rule[::6]
            for lot, picks in looked_at:
                chains = {area: chain_plainly(with_picks(rule, lot, (area,)), m) for area in lot}
                safe.append((lot, tuple([area for area in lot if chains[area] == chain])))
                wide |= {max(len(own) for own in chains[area]) for area in lot if area != picks[0]}
            if m < 6:
                self.assertEqual(safe_picks(rule), tuple(safe))
                self.assertEqual(widths_by_one(rule), tuple(sorted(wide)))
            else:
                self.assertEqual(safe_picks(rule)[::6], tuple(safe))
                self.assertLessEqual(wide, set(widths_by_one(rule)))
            self.assertIs(is_rule(safe_picks(rule), m), True)
        self.assertEqual((safe_picks(()), widths_by_one(())), ((), ()))

    def test_each_rule_in_safe_picks_by_one_has_the_chain(self):
        for m, rule in great_plain(173, 1):
            chain = chain_of(rule)
            for lot, picks in safe_picks(rule)[::5]:
                for area in lot:
                    self.assertEqual(chain_of(with_picks(rule, lot, (area,))) == chain, area in picks)

    def test_smallest(self):
        self.assertEqual((fewest_changes((), 1), changes_row(()), change_orders(())), (0, (0,), [(0,)]))
        self.assertEqual((mended((), 1), changes_within((), ()), floor_of(())), ((), 0, (0,)))
        two = (((0, 1), (0,)),)
        self.assertEqual((changes_row(two), change_orders(two), widths_by_one(two)), ((0, 0), [(1, 0)], (1,)))
        self.assertEqual(len(plain_rules_within(safe_picks(two))), plain_many(safe_picks(two)))

    def test_what_holds_for_every_call(self):
        for m, rule in [(1, ()), (2, (((0, 1), (0,)),)), (3, RING), (6, rule_by("turn", 6)), (6, rule_by("least", 6))]:
            for order in (tuple(range(m)), tuple(range(m))[::-1], (0, 0)):
                check_call(self, order_changes, (rule, order), "set")
            for most in range(1, m + 1):
                check_call(self, fewest_changes, (rule, most), "int")
                check_call(self, mended, (rule, most), "tuple")
                check_call(self, is_mended, (rule, most, mended(rule, most)), "bool")
            check_call(self, changes_row, (rule,), "tuple")
            check_call(self, change_orders, (rule,), "list")
            check_call(self, changes_within, (rule, rule), "int")
            check_call(self, changes_within, (rule, rule_by("all", m)), "int")
            check_call(self, floor_of, (rule,), "tuple")
            check_call(self, is_floor, (rule, floor_of(rule)), "bool")
            check_call(self, safe_picks, (rule,), "tuple")
            check_call(self, widths_by_one, (rule,), "set")
