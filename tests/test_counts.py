"""Section 15: counts of rules."""

from collections import Counter
from itertools import permutations, product
from math import factorial
from random import Random
from unittest import TestCase

from gatheryard import chains, counts, errors, rules
from gatheryard.chains import chain_of, order_of, width
from gatheryard.counts import (all_one_many, chain_many, chains_many, order_number, order_rule, ordered_many,
                               ordered_with, orders_with, rules_many, sizes_many, widths_many)
from gatheryard.errors import CanNot, Unfit
from gatheryard.rules import is_plain, is_rule, rule_by, rule_in
from tests.checks import check_call, check_examples
from tests.makers import all_plain_rules, lots, random_rule
from tests.plain import chain_plainly, partings

EXAMPLES = """
>>> [rules_many(m) for m in (1, 2, 3, 4)], [all_one_many(m) for m in (1, 2, 3, 4)], [ordered_many(m) for m in (1, 2, 3, 4)]
([1, 2, 24, 20736], [1, 0, 12, 18384], [1, 2, 12, 1152])
>>> widths_many(3), widths_many(4), sizes_many(4, (1, 3)), sizes_many(4, (3, 1)), sizes_many(4, (2, 2)), chains_many(4)
((12, 0, 12), (1152, 0, 1200, 18384), 1152, 48, 0, 33)
>>> chain_many(3, ((0,), (1,), (2,))), chain_many(3, ((0, 1, 2),)), chain_many(3, ((0, 1), (2,)))
(2, 12, 0)
>>> order_rule(3, 0)
(((0, 1), (1,)), ((0, 1, 2), (1,)), ((0, 2), (2,)), ((1, 2), (2,)))
>>> back = order_rule(3, 11)
>>> back[:2], order_of(back), order_number(back)
((((0, 1), (0,)), ((0, 1, 2), (1,))), (2, 1, 0), 11)
>>> ordered_with(3, (((0, 1), 0),)), orders_with(3, (((0, 1), 0), ((0, 2), 2))), ordered_with(3, (((0, 1), 0), ((0, 2), 2), ((1, 2), 1)))
(6, [(1, 0, 2)], 0)
>>> order_rule(3, 12)
raises CanNot()
"""


def first_told(order, lot):
    return [area for area in order if area in lot][0]


class CountsTest(TestCase):

    @classmethod
    def setUpClass(cls):
        # For up to three areas the CHAINS come by the plain way, those for four by the package's own.
        cls.chains = {m: [(rule, chain_plainly(rule, m)) for rule in all_plain_rules(m)] for m in (1, 2, 3)}
        cls.chains[4] = [(rule, chain_of(rule)) for rule in all_plain_rules(4)]

    def test_examples(self):
        check_examples(self, EXAMPLES, {**vars(errors), **vars(rules), **vars(chains), **vars(counts)})

    def test_counts_by_all_rules(self):
        for m, found in self.chains.items():
            widths = Counter(max(len(lot) for lot in chain) for _, chain in found)
            self.assertEqual(rules_many(m), len(found))
            self.assertEqual(all_one_many(m), sum(len(chain) == 1 for _, chain in found))
            self.assertEqual(ordered_many(m), widths[1])
            self.assertEqual(widths_many(m), tuple(widths[many] for many in range(1, m + 1)))
            self.assertEqual(chains_many(m), len({chain for _, chain in found}))

    def test_sizes_by_all_rules(self):
        for m, found in self.chains.items():
            sizes = Counter(tuple(len(lot) for lot in chain) for _, chain in found)
            for length in range(m + 2):
                for own in product(range(1, m + 2), repeat=length):
                    self.assertEqual(sizes_many(m, own), sizes[own], (m, own))
        self.assertEqual(sizes_many(3, (10 ** 20,)), 0)

    def test_chains_by_all_rules(self):
        for m, found in self.chains.items():
            many = Counter(chain for _, chain in found)
            for row in partings(tuple(range(m))):
                self.assertEqual(chain_many(m, row), many[row])

    def test_chain_many_is_unfit(self):
        for m, row in [(3, ()), (3, ((0,), (1,))), (3, ((0, 1), (1, 2))), (3, ((0, 1, 2), (0,))), (3, ((0, 1, 2, 3),)),
                       (1, ()), (1, ((1,),)), (2, ((0,), (1,), (2,))), (2, ((0, 5),)), (6, ((0, 1, 2), (3, 4)))]:
            self.assertRaises(Unfit, chain_many, m, row)

    def test_great_counts(self):
        self.assertEqual(rules_many(6), 2 ** 15 * 3 ** 20 * 4 ** 15 * 5 ** 6 * 6)
        for m in range(1, 7):
            per_order = 1
            for lot in lots(m):
                per_order *= max(1, len(lot) - 1)
            self.assertEqual(ordered_many(m), factorial(m) * per_order)
            self.assertEqual(sum(widths_many(m)), rules_many(m))
            self.assertEqual(widths_many(m)[0], ordered_many(m))
            self.assertEqual(widths_many(m)[-1], all_one_many(m) if m > 1 else 1)
            self.assertEqual(sizes_many(m, (1,) * m), ordered_many(m))
            self.assertEqual(sizes_many(m, (m,)), all_one_many(m))

    def test_great_chains(self):
        for m in (4, 5, 6):
            sizes, total, unlike = Counter(), 0, 0
            for row in partings(tuple(range(m))):
                many = chain_many(m, row)
                sizes[tuple(len(lot) for lot in row)] += many
                total, unlike = total + many, unlike + (many > 0)
            self.assertEqual(total, rules_many(m))
            self.assertEqual(chains_many(m), unlike)
            for own, many in sizes.items():
                self.assertEqual(sizes_many(m, own), many)

    def test_great_chains_by_what_each_lot_may_pick(self):
        one = {1: 1, 2: 0, 3: 12, 4: 18384}
        for m in (5, 6):
            for row in partings(tuple(range(m)))[::1 if m == 5 else 7]:
                if max(len(lot) for lot in row) > 4:
                    continue
                many = 1
                for lot in row:
                    many *= one[len(lot)]
                for lot in lots(m):
                    if not any(set(lot) <= set(own) for own in row):
                        first = [own for own in row if set(own) & set(lot)][0]
                        many *= len(set(lot) - set(first))
                self.assertEqual(chain_many(m, row), many)

    def test_numbers_there_and_back(self):
        for m, found in self.chains.items():
            good = sorted((order_of(rule), rule) for rule, chain in found if max(len(lot) for lot in chain) == 1)
            for number, (order, rule) in list(enumerate(good))[::1 if m < 4 else 37]:
                self.assertEqual(order_rule(m, number), rule)
                self.assertEqual(order_number(rule), number)
            for number in (-1, len(good), 10 ** 40, -10 ** 40):
                self.assertRaises(CanNot, order_rule, m, number)
            for rule, chain in found[::1 if m < 4 else 41]:
                if max(len(lot) for lot in chain) > 1:
                    self.assertRaises(Unfit, order_number, rule)

    def test_great_numbers(self):
        random = Random(151)
        for m in (5, 6):
            last = ordered_many(m) - 1
            for number in [0, 1, last, last - 1] + [random.randrange(last) for _ in range(15)]:
                rule = order_rule(m, number)
                self.assertIs(is_rule(rule, m) and is_plain(rule), True)
                self.assertEqual((width(rule), order_number(rule)), (1, number))
            self.assertRaises(CanNot, order_rule, m, last + 1)
            self.assertRaises(CanNot, order_rule, m, -1)
            self.assertRaises(Unfit, order_number, rule_by("turn", m))
        self.assertEqual(order_number(rule_in((5, 4, 3, 2, 1, 0))) // (ordered_many(6) // 720), 719)
        self.assertEqual(order_of(order_rule(6, 0)), (0, 1, 2, 3, 4, 5))

    def test_what_is_told_by_all_rules(self):
        for m in (1, 2, 3):
            good = [rule for rule, chain in self.chains[m] if max(len(lot) for lot in chain) == 1]
            sights = sorted(lot for lot in lots(m) if len(lot) > 1)
            for picked in product(*[(None,) + lot for lot in sights]):
                told = tuple((lot, area) for lot, area in zip(sights, picked) if area is not None)
                fit = [rule for rule in good if all(dict(rule)[lot] == (area,) for lot, area in told)]
                self.assertEqual(ordered_with(m, told), len(fit))
                self.assertEqual(orders_with(m, told), sorted({order_of(rule) for rule in fit}))

    def test_two_areas_told_of_one_lot(self):
        for told in ((((0, 1), 0), ((0, 1), 1)), (((0, 1, 2), 0), ((0, 1, 2), 2)),
                     (((0, 1), 0), ((0, 1, 2), 0), ((0, 1, 2), 1), ((0, 1, 2), 2))):
            self.assertEqual((ordered_with(3, told), orders_with(3, told)), (0, []))
            self.assertEqual((ordered_with(6, told), orders_with(6, told)), (0, []))

    def test_what_is_told_of_great_rules(self):
        random = Random(152)
        for m in (4, 5, 6):
            self.assertEqual(ordered_with(m, ()), ordered_many(m))
            self.assertEqual(orders_with(m, ()), sorted(permutations(range(m))))
            for many in (1, 3, 8):
                told = tuple(sorted((lot, random.choice(lot)) for lot in random.sample(lots(m)[m:], many)))
                orders = [order for order in permutations(range(m))
                          if all(first_told(order, lot) != area for lot, area in told)]
                each = 1
                for lot in lots(m)[m:]:
                    each *= 1 if lot in dict(told) else len(lot) - 1
                self.assertEqual(orders_with(m, told), orders)
                self.assertEqual(ordered_with(m, told), len(orders) * each)
            whole = tuple((lot, picks[0]) for lot, picks in rule_by("greatest", m))
            self.assertEqual(orders_with(m, whole), [tuple(range(m))])
            self.assertEqual(ordered_with(m, whole), 1)

    def test_what_holds_for_every_call(self):
        random = Random(153)
        for m in (1, 2, 3, 6):
            for function in (rules_many, all_one_many, ordered_many, chains_many):
                check_call(self, function, (m,), "int")
            check_call(self, widths_many, (m,), "tuple")
            for sizes in ((), (1,) * m, (m,), (2, 1), (1, 5)):
                check_call(self, sizes_many, (m, sizes), "int")
            for chain in (tuple([(area,) for area in range(m)]), (tuple(range(m)),), ()):
                check_call(self, chain_many, (m, chain), "int")
            for rule in (rule_by("least", m), random_rule(random, m, True)):
                check_call(self, order_number, (rule,), "int")
            for number in (0, 7, -1):
                check_call(self, order_rule, (m, number), "tuple")
            told = tuple([(lot, lot[0]) for lot in sorted(lots(m)) if len(lot) > 1][:3])
            check_call(self, ordered_with, (m, told), "int")
            check_call(self, orders_with, (m, told), "list")
