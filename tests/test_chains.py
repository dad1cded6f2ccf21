"""Section 13: chains."""

from itertools import permutations
from random import Random
from unittest import TestCase

from gatheryard import chains, errors, rules
from gatheryard.chains import (bar_to, chain_in, chain_of, is_bar_to, is_chain, is_linking, is_order, linkings_to,
                               order_of, width)
from gatheryard.errors import CanNot
from gatheryard.leads import is_woven
from gatheryard.rules import rule_by, rule_in
from tests.checks import check_call, check_examples, check_things
from tests.makers import all_rules, lots, small_and_great_rules, sparse_rule
from tests.plain import chain_plainly, chain_within, is_woven_plainly, offends, partings, picks_at

EXAMPLES = """
>>> great, turn = rule_by("greatest", 3), rule_by("turn", 3)
>>> either = (((0, 1), (0, 1)),) + great[1:]
>>> chain_of(turn), chain_of(great), chain_of(either), [width(own) for own in (turn, great, either)]
(((0, 1, 2),), ((0,), (1,), (2,)), ((0, 1), (2,)), [3, 1, 2])
>>> chain_in(turn, (0, 1)), chain_of(()), is_chain(either, ((2,), (0, 1)))
(((0,), (1,)), ((0,),), False)
>>> [is_linking(either, own) for own in (((0, 1), (2,)), ((0, 1, 2),), ((2,), (0, 1)))], linkings_to(great, 2)
([True, True, False], [((0,), (1,), (2,)), ((0,), (1, 2)), ((0, 1), (2,))])
>>> order_of(great), is_order(great, (1, 0, 2)), bar_to(turn, 2), is_bar_to(either, 1, (0, 1))
((0, 1, 2), False, (0, 1, 2), True)
>>> order_of(turn)
raises CanNot()
"""

TURN, GREAT, LOOSE = rule_by("turn", 3), rule_by("greatest", 3), rule_by("all", 3)
EITHER = (((0, 1), (0, 1)),) + GREAT[1:]


def all_small():
    return [(m, rule) for m in (1, 2, 3) for rule in all_rules(m)]


def many_rules():
    random = Random(131)
    greater = [(m, rule) for m, rule in small_and_great_rules(132) if m > 3]
    return all_small() + greater + [(m, sparse_rule(random, m)) for m in (4, 5, 6) for _ in range(8)]


def links(rule, row):
    """Whether no LOT that lies in none of row picks from the first of them that it meets."""
    return not any(offends(row, lot, picks) for lot, picks in rule)


class ChainsTest(TestCase):

    def test_examples(self):
        check_examples(self, EXAMPLES, {**vars(errors), **vars(rules), **vars(chains)})

    def test_chains_by_taking_the_first_away(self):
        for m, rule in many_rules():
            chain = chain_plainly(rule, m)
            self.assertEqual(chain_of(rule), chain)
            self.assertEqual(width(rule), max(len(lot) for lot in chain))
            for lot in lots(m)[::3]:
                self.assertEqual(chain_in(rule, lot), chain_within(rule, lot))

    def test_each_lot_of_a_chain_is_woven_and_has_all_woven_ones(self):
        for m, rule in many_rules():
            chain = chain_of(rule)
            self.assertEqual(sorted(area for lot in chain for area in lot), list(range(m)))
            self.assertTrue(all(len(lot) == 1 or is_woven(rule, lot) for lot in chain))
            for lot in lots(m):
                if is_woven(rule, lot):
                    self.assertTrue(any(set(lot) <= set(own) for own in chain))

    def test_is_chain(self):
        for m, rule in all_small():
            chain = chain_plainly(rule, m)
            for row in partings(tuple(range(m))):
                self.assertIs(is_chain(rule, row), row == chain)
        for m, rule in many_rules():
            chain = chain_of(rule)
            self.assertIs(is_chain(rule, chain), True)
            self.assertIs(is_chain(rule, chain[::-1]), len(chain) == 1)
            self.assertIs(is_chain(rule, chain + chain[-1:]), False)
            self.assertIs(is_chain(rule, chain[1:]), False)
        check_things(self, lambda thing: is_chain(EITHER, thing), [((0, 1), (2,))])
        check_things(self, lambda thing: is_chain((), thing), [((0,),)])

    def test_linkings_by_all_rows(self):
        for m, rule in many_rules():
            if m > 4:
                continue
            rows = partings(tuple(range(m)))
            good = sorted(row for row in rows if links(rule, row))
            self.assertIn(chain_plainly(rule, m), good)
            for most in range(1, m + 2):
                wanted = [row for row in good if max(len(lot) for lot in row) <= most]
                self.assertEqual(linkings_to(rule, most), wanted)
            for row in rows:
                self.assertIs(is_linking(rule, row), row in good)

    def test_linkings_of_great_rules(self):
        random = Random(133)
        rows = partings(tuple(range(5)))
        for m, rule in [(5, sparse_rule(random, 5)) for _ in range(6)] + [(5, rule_by("greatest", 5))]:
            good = sorted(row for row in rows if links(rule, row))
            self.assertEqual(linkings_to(rule, 5), good)
        great = rule_by("greatest", 6)
        self.assertEqual(len(linkings_to(great, 6)), 32)
        self.assertEqual(linkings_to(great, 1), [tuple([(area,) for area in range(6)])])
        self.assertEqual(linkings_to(rule_by("all", 6), 6), [(tuple(range(6)),)])
        self.assertEqual(linkings_to(rule_by("all", 6), 5), [])
        rows = partings(tuple(range(6)))
        for rule in [great] + [sparse_rule(random, 6) for _ in range(2)]:
            self.assertEqual(linkings_to(rule, 6), sorted(row for row in rows if links(rule, row)))

    def test_is_linking_judges_things(self):
        check_things(self, lambda thing: is_linking(EITHER, thing), [((0, 1), (2,)), ((0, 1, 2),)])
        check_things(self, lambda thing: is_linking((), thing), [((0,),)])
        for wrong in ((), ((0, 1),), ((0, 1), (1, 2)), ((0, 1), (2,), (2,)), ((0, 1), (2, 3)), ((0, 1, 2), ())):
            self.assertIs(is_linking(EITHER, wrong), False)
        self.assertIs(is_linking((), ()), False)

    def test_orders_by_trying_all(self):
        for m, rule in many_rules():
            good = [order for order in permutations(range(m)) if links(rule, tuple([(area,) for area in order]))]
            self.assertEqual(len(good), 1 if width(rule) == 1 else 0)
            if good:
                self.assertEqual(order_of(rule), good[0])
            else:
                self.assertRaises(CanNot, order_of, rule)
            for order in list(permutations(range(m)))[::7] + good:
                self.assertIs(is_order(rule, order), order in good)

    def test_the_order_of_a_rule_that_picks_the_last_of_it(self):
        for order in permutations(range(4)):
            self.assertEqual(order_of(rule_in(order)), order)
        self.assertEqual(order_of(rule_by("least", 6)), (5, 4, 3, 2, 1, 0))

    def test_is_order_judges_things(self):
        check_things(self, lambda thing: is_order(GREAT, thing), [(0, 1, 2)])
        check_things(self, lambda thing: is_order((), thing), [(0,)])
        check_things(self, lambda thing: is_order(TURN, thing), [])
        for wrong in ((0, 1), (0, 1, 2, 2), (0, 1, 2, 3), (0, 0, 2), (), (-1, 0, 1), ((0,), (1,), (2,))):
            self.assertIs(is_order(GREAT, wrong), False)

    def test_bars(self):
        for m, rule in many_rules():
            woven = [lot for lot in lots(m) if is_woven_plainly(rule, lot)]
            for most in range(1, m + 2):
                bars = [lot for lot in woven if len(lot) > most]
                self.assertEqual(bars == [], width(rule) <= most)
                if bars:
                    self.assertEqual(bar_to(rule, most), bars[0])
                else:
                    self.assertRaises(CanNot, bar_to, rule, most)
                for lot in lots(m)[::3]:
                    self.assertIs(is_bar_to(rule, most, lot), lot in bars)
        check_things(self, lambda thing: is_bar_to(LOOSE, 1, thing), [(0, 1), (0, 1, 2), (0, 2)])
        check_things(self, lambda thing: is_bar_to(LOOSE, 2, thing), [(0, 1, 2)])
        check_things(self, lambda thing: is_bar_to((), 1, thing), [])

    def test_narrower_bounds_leave_fewer_linkings(self):
        for m, rule in many_rules():
            chain = chain_of(rule)
            self.assertEqual(linkings_to(rule, width(rule))[:1] != [], True)
            self.assertEqual(linkings_to(rule, width(rule) - 1), [])
            self.assertIn(chain, linkings_to(rule, width(rule)))

    def test_a_linking_has_a_pick_outside_of_the_first_it_meets(self):
        for m, rule in all_small():
            for row in linkings_to(rule, m):
                for lot in lots(m):
                    if any(set(lot) <= set(own) for own in row):
                        continue
                    first = [own for own in row if set(own) & set(lot)][0]
                    self.assertFalse(set(picks_at(rule, lot)) & set(first))

    def test_what_holds_for_every_call(self):
        for m, rule in [(1, ()), (3, TURN), (3, LOOSE), (3, EITHER), (6, rule_by("greatest", 6)),
                        (6, rule_by("turn", 6))]:
            check_call(self, chain_of, (rule,), "tuple")
            check_call(self, width, (rule,), "int")
            check_call(self, order_of, (rule,), "tuple")
            check_call(self, is_chain, (rule, chain_of(rule)), "bool")
            check_call(self, is_linking, (rule, chain_of(rule)), "bool")
            check_call(self, is_order, (rule, tuple(range(m))), "bool")
            for most in (1, 2, 6, 10 ** 20):
                check_call(self, linkings_to, (rule, most), "list")
                check_call(self, bar_to, (rule, most), "set")
                check_call(self, is_bar_to, (rule, most, (0,)), "bool")
            for lot in lots(m)[::4]:
                check_call(self, chain_in, (rule, lot), "tuple")
