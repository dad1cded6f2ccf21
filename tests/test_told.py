"""Section 25: rules told back."""

from itertools import permutations, product
from random import Random
from unittest import TestCase

from gatheryard import errors, told
from gatheryard.errors import CanNot, Unfit
from gatheryard.heaps import is_heap
from gatheryard.told import (asking_heap, bar, best_ask, fits, goods_many, is_bar, is_order_told, is_told, order_told,
                             orders_told, sure_picks, told_by)
from tests.checks import check_call, check_examples, check_things
from tests.makers import all_plain_rules, great_heaps, lots, random_rule, ring, small_heaps, some_heaps
from tests.plain import inside, is_wide, members, next_stand, order_of_chain, sight_of, where_all_lie

EXAMPLES = """
>>> one, two, ring = (((0, 1), 1),), (((0, 1), 1), ((1, 2), 2)), (((0, 1), 1), ((0, 2), 0), ((1, 2), 2))
>>> orders_told(3, one), goods_many(3, one), goods_many(3, two), sure_picks(3, two)
([(0, 1, 2), (0, 2, 1), (2, 0, 1)], 6, 2, (((0, 1), 1), ((0, 2), 2), ((1, 2), 2)))
>>> bar(3, ring), is_bar(ring, (0, 1)), best_ask(3, two)
((0, 1, 2), False, (0, 1, 2))
>>> asking_heap(3, (0, 2)), told_by(3, ((asking_heap(3, (0, 2)), (0,), (2, 2)),))
((3, ((0, ()), (2, (0,))), ()), (((0, 2), 2),))
>>> told_by(3, ((asking_heap(3, (0, 2)), (0,), (1, 2)),))
raises Unfit()
"""


def sights(m):
    return sorted(lot for lot in lots(m) if len(lot) > 1)


def all_told(m):
    """All that may be told of a plain RULE for m areas."""
    choices = [[None] + [(lot, area) for area in lot] for lot in sights(m)]
    return [tuple([pair for pair in picked if pair]) for picked in product(*choices)]


def some_told(random, m, among):
    """Something told, a pair for about among of a hundred LOTS; mostly by one order, so that it often fits some."""
    order = random.sample(range(m), m)
    pairs = []
    for lot in sights(m):
        if random.randrange(100) < among:
            fit = [area for area in order if area in lot][1:]
            pairs.append((lot, random.choice(fit if random.randrange(12) else lot)))
    return tuple(pairs)


def good_rules(m):
    """All plain RULES of width 1: for few areas all that are, for more those of each order."""
    if m < 4:
        return [rule for rule in all_plain_rules(m) if is_wide(rule, m) == 1]
    found = []
    for order in permutations(range(m)):
        rows = [[area for area in order if area in lot][1:] for lot in sights(m)]
        found += [tuple([(lot, (area,)) for lot, area in zip(sights(m), picked)]) for picked in product(*rows)]
    return found


def fitting(rules, told):
    return [rule for rule in rules if all(dict(rule)[lot] == (area,) for lot, area in told)]


def bars(m, told):
    """All BARS, fewest areas first, then ascending, by trying all LOTS."""
    return [lot for lot in lots(m) if len(lot) > 1
            and all(any(area == own and set(other) <= set(lot) for other, own in told) for area in lot)]


def ask_plainly(m, rules, told):
    """The best LOT to ask for, by counting the RULES left behind each answer."""
    left = fitting(rules, told)
    ranked = []
    for lot in sights(m):
        if lot not in dict(told):
            ranked.append((max(len(fitting(left, ((lot, area),))) for area in lot), lot))
    return min(ranked)[1]


def shown(heap, lot, stand):
    """The pairs (sight, area) that a SEEN shows."""
    return {(sight_of(heap, one), stand[one]) for one in inside(heap, lot)
            if stand[one] is not None and len(sight_of(heap, one)) > 1}


class ToldTest(TestCase):

    def test_examples(self):
        check_examples(self, EXAMPLES, {**vars(errors), **vars(told)})

    def test_what_is_seen_of_one_rule_tells_its_picks(self):
        random = Random(301)
        for m in (1, 2, 3, 4, 5, 6):
            heaps = [heap for heap in some_heaps(150, 6, 6, 302) + great_heaps() + small_heaps()[::5] if heap[0] == m]
            rule = random_rule(random, m, True)
            seen, wanted = [], set()
            for heap in heaps:
                lot = random.choice(lots(m))
                stand = next_stand(heap, rule, where_all_lie(heap), lot)
                self.assertEqual(told_by(m, ((heap, lot, stand),)), tuple(sorted(shown(heap, lot, stand))))
                seen.append((heap, lot, stand))
                wanted |= shown(heap, lot, stand)
            self.assertEqual(told_by(m, tuple(seen)), tuple(sorted(wanted)))
            self.assertIs(fits(told_by(m, tuple(seen)), rule), True)

    def test_what_cannot_be_seen_is_unfit(self):
        random = Random(303)
        wrong = 0
        for heap in some_heaps(200, 4, 5, 304):
            rule, lot = random_rule(random, heap[0], True), random.choice(lots(heap[0]))
            stand = next_stand(heap, rule, where_all_lie(heap), lot)
            for one in members(heap):
                for area in (None, 0, heap[0] - 1, heap[0]):
                    other = stand[:one] + (area,) + stand[one + 1:]
                    may = sight_of(heap, one) if one in inside(heap, lot) else (heap[1][one][0],)
                    if (area is None) != (stand[one] is None) or area is not None and area not in may:
                        self.assertRaises(Unfit, told_by, heap[0], ((heap, lot, other),))
                        wrong += 1
        self.assertGreater(wrong, 500)

    def test_one_sight_that_goes_to_two_areas(self):
        ask = asking_heap(3, (0, 2))
        here, there = (ask, (0,), (0, 2)), (ask, (0,), (2, 2))
        self.assertEqual(told_by(3, (here, here)), (((0, 2), 0),))
        self.assertRaises(CanNot, told_by, 3, (here, there))
        both = (3, ((0, (1,)), (2, (0, 2)), (0, (1,))), (0, 1, 2))
        self.assertEqual(told_by(3, ((both, (0,), (2, 2, 2)),)), (((0, 2), 2),))
        self.assertRaises(CanNot, told_by, 3, ((both, (0,), (0, 2, 2)),))
        self.assertRaises(CanNot, told_by, 3, ((both, (0, 2), (0, 2, 0)),))
        # What is unfit in a later one comes first.
        for bad in [(ask, (0,), (1, 2)), (ask, (0,), (None, 2)), (ask, (0,), (2, 0)), (ask, (2,), (0, 2)),
                    (ask, (0,), (2, None))]:
            self.assertRaises(Unfit, told_by, 3, (here, there, bad))
            self.assertRaises(Unfit, told_by, 3, (bad, here, there))

    def test_sights_of_one_area_and_other_areas_tell_nothing(self):
        alone = (2, ((0, ()), (0, (0,)), (1, ())), (0, 1, 2))
        self.assertEqual(told_by(2, ((alone, (0, 1), (0, 0, 1)),)), ())
        self.assertRaises(Unfit, told_by, 2, ((alone, (0, 1), (1, 0, 1)),))
        held = (2, ((0, (1,)), (1, (0,))), (0,))
        self.assertEqual(told_by(2, ((held, (0,), (1, 1)),)), (((0, 1), 1),))
        self.assertRaises(Unfit, told_by, 2, ((held, (0,), (1, 0)),))
        self.assertEqual(told_by(2, ()), ())
        self.assertEqual(told_by(1, (((1, (), ()), (0,), ()), (ring((0,)), (0,), (None,)))), ())

    def test_fits(self):
        random = Random(305)
        for m in (1, 2, 3, 4, 5, 6):
            rule = random_rule(random, m, True)
            for _ in range(30):
                pairs = tuple([(lot, random.choice(picks + lot[:1])) for lot, picks in rule if random.randrange(3) == 0])
                self.assertIs(fits(pairs, rule), fitting([rule], pairs) != [])
            self.assertIs(fits((), rule), True)
            self.assertIs(fits(tuple([(lot, picks[0]) for lot, picks in rule]), rule), True)

    def test_orders_and_counts_by_all_plain_rules(self):
        for m in (1, 2, 3):
            rules = good_rules(m)
            for pairs in all_told(m):
                self.check_told(m, rules, pairs)
        random = Random(306)
        rules = good_rules(4)
        self.assertEqual(len(rules), 1152)
        for among in (0, 10, 20, 30, 50, 100):
            for _ in range(7):
                self.check_told(4, rules, some_told(random, 4, among))
        for among in (40, 60, 70, 80):
            for _ in range(25):
                self.check_told(4, rules, some_told(random, 4, among))
        # Here a LOT of three is the best one to ask for, though one of two leaves fewer orders.
        for pairs in [(((0, 1, 2), 1), ((0, 1, 2, 3), 2), ((0, 1, 3), 1), ((2, 3), 2)),
                      (((0, 1, 2), 2), ((0, 1, 2, 3), 0), ((0, 2, 3), 0))]:
            self.check_told(4, rules, pairs)

    def check_told(self, m, rules, pairs):
        left = fitting(rules, pairs)
        self.assertEqual(orders_told(m, pairs), sorted({order_of_chain(rule, m) for rule in left}))
        self.assertEqual(goods_many(m, pairs), len(left))
        if left:
            alike = set.intersection(*[{(lot, picks[0]) for lot, picks in rule} for rule in left])
            self.assertEqual(sure_picks(m, pairs), tuple(sorted(alike)))
            self.assertEqual(best_ask(m, pairs), ask_plainly(m, rules, pairs) if len(left) > 1 else None)
            self.assertTrue(all(len(lot) == 2 or (lot, area) in pairs for lot, area in alike))
        else:
            self.assertRaises(CanNot, sure_picks, m, pairs)
            self.assertRaises(CanNot, best_ask, m, pairs)
        self.check_order_or_bar(m, pairs)

    def check_order_or_bar(self, m, pairs):
        """There is an order or a BAR, never both."""
        orders, barring = orders_told(m, pairs), bars(m, pairs)
        self.assertEqual(orders == [], barring != [])
        self.assertEqual([lot for lot in lots(m) if is_bar(pairs, lot)], barring)
        self.assertEqual(order_told(m, pairs), orders[0] if orders else None)
        if barring:
            self.assertEqual(bar(m, pairs), barring[0])
        else:
            self.assertRaises(CanNot, bar, m, pairs)

    def test_orders_or_bars_by_trying_all_orders_and_lots(self):
        random = Random(307)
        for m in (4, 5, 6):
            for _ in range(40):
                pairs = some_told(random, m, random.choice((5, 15, 40, 100)))
                good = [order for order in permutations(range(m))
                        if all([area for area in order if area in lot][0] != own for lot, own in pairs)]
                self.assertEqual(orders_told(m, pairs), good)
                lacking = [lot for lot in sights(m) if lot not in dict(pairs)]
                each = 1
                for lot in lacking:
                    each *= len(lot) - 1
                self.assertEqual(goods_many(m, pairs), len(good) * each)
                for order in random.sample(list(permutations(range(m))), 5) + good[:2]:
                    self.assertIs(is_order_told(m, pairs, order), order in good)
                self.check_order_or_bar(m, pairs)

    def test_sure_picks_of_many_areas(self):
        random = Random(308)
        for m in (5, 6):
            for _ in range(20):
                pairs = some_told(random, m, random.choice((10, 30, 60)))
                orders = orders_told(m, pairs)
                if orders:
                    wanted = set(pairs)
                    for lot in sights(m):
                        left = {tuple([area for area in order if area in lot])[1:] for order in orders}
                        if len(lot) == 2 and len(left) == 1:
                            wanted.add((lot, left.pop()[0]))
                    self.assertEqual(sure_picks(m, pairs), tuple(sorted(wanted)))

    def test_is_bar_judges_things(self):
        three = (((0, 1), 1), ((0, 2), 0), ((1, 2), 2))
        check_things(self, lambda thing: is_bar(three, thing), [(0, 1, 2)])
        check_things(self, lambda thing: is_bar((((0, 1), 0), ((0, 1, 2), 1)), thing), [])
        check_things(self, lambda thing: is_bar((), thing), [])
        for thing in ((0, 1), (1, 2), (0,), (0, 1, 2, 3), [0, 1, 2], (0, True, 2), (2, 1, 0), 3):
            self.assertIs(is_bar(three, thing), False)
        self.assertIs(is_bar((((2, 5), 2), ((2, 3, 5), 5), ((3, 5), 3)), (2, 3, 5)), True)

    def test_asking_heaps_show_what_is_picked(self):
        random = Random(309)
        for m in range(2, 7):
            rule = random_rule(random, m, True)
            for lot, picks in rule:
                heap = asking_heap(m, lot)
                self.assertIs(is_heap(heap), True)
                self.assertEqual((heap[0], where_all_lie(heap), heap[2]), (m, lot, ()))
                self.assertEqual(heap[1][0][1], ())
                self.assertTrue(all(ties == (0,) for _, ties in heap[1][1:]))
                stand = next_stand(heap, rule, where_all_lie(heap), lot[:1])
                self.assertEqual(told_by(m, ((heap, lot[:1], stand),)), ((lot, picks[0]),))

    def test_asking_on_comes_to_one_rule(self):
        random = Random(310)
        for m in (2, 3, 4):
            for rule in random.sample(good_rules(m), 2):
                pairs, asked = (), 0
                while best_ask(m, pairs) is not None:
                    lot = best_ask(m, pairs)
                    pairs = tuple(sorted(pairs + ((lot, dict(rule)[lot][0]),)))
                    asked += 1
                self.assertEqual(fitting(good_rules(m), pairs), [rule])
                self.assertLessEqual(asked, len(sights(m)))

    def test_is_told_judges_things(self):
        for m in (1, 2, 3):
            check_things(self, lambda thing: is_told(thing, m), all_told(m)[::7])
        for thing in ((((0, 1), 2),), (((0,), 0),), (((0, 1), 0), ((0, 1), 1)), (((0, 1), 0), ((0, 1), 0)),
                      (((0, 2), 0), ((0, 1), 0)), (((0, 3), 0),), (((0, 1), True),), (((0, 1), 0, 0),), [((0, 1), 0)],
                      (((1, 0), 0),), (((0, 1), (0,)),)):
            self.assertIs(is_told(thing, 3), False, thing)
        for m in (-5, 0):
            self.assertIs(is_told((((0, 1), 0),), m), False)
        self.assertIs(is_told((((0, 10 ** 20), 0),), 10 ** 20 + 1), True)

    def test_is_order_told_judges_things(self):
        check_things(self, lambda thing: is_order_told(3, (((0, 1), 1),), thing), [(0, 1, 2), (2, 0, 1)])
        for thing in ((1, 0, 2), (0, 1), (0, 1, 2, 3), (0, 1, 1), [0, 1, 2], (0, True, 2), (), 5):
            self.assertIs(is_order_told(3, (((0, 1), 1),), thing), False)

    def test_smallest(self):
        self.assertEqual((orders_told(1, ()), goods_many(1, ()), sure_picks(1, ()), best_ask(1, ())), ([(0,)], 1, (), None))
        self.assertEqual((fits((), ()), told_by(1, ())), (True, ()))
        self.assertRaises(CanNot, bar, 1, ())
        self.assertEqual((orders_told(2, ()), goods_many(2, ()), sure_picks(2, ()), best_ask(2, ())),
                         ([(0, 1), (1, 0)], 2, (), (0, 1)))
        self.assertEqual((best_ask(2, (((0, 1), 0),)), sure_picks(2, (((0, 1), 0),))), (None, (((0, 1), 0),)))
        self.assertEqual((goods_many(4, ()), best_ask(3, ())), (1152, ask_plainly(3, good_rules(3), ())))

    def test_what_holds_for_every_call(self):
        random = Random(311)
        for m in (1, 2, 3, 4, 6):
            for among in (0, 30, 100):
                pairs, rule = some_told(random, m, among), random_rule(random, m, True)
                check_call(self, fits, (pairs, rule), "bool")
                check_call(self, orders_told, (m, pairs), "list")
                check_call(self, goods_many, (m, pairs), "int")
                check_call(self, sure_picks, (m, pairs), "set")
                check_call(self, bar, (m, pairs), "set")
                check_call(self, is_bar, (pairs, tuple(range(m))), "bool")
                if m < 5:
                    check_call(self, best_ask, (m, pairs), "set?")
            if m > 1:
                check_call(self, asking_heap, (m, random.choice(sights(m))), "tuple")
            heap = [own for own in great_heaps() + [(m, ((0, (0,)),), (0,))] if own[0] == m][-1]
            for lot in (tuple(range(m)), (0,)):
                stand = next_stand(heap, rule, where_all_lie(heap), lot)
                check_call(self, told_by, (m, ((heap, lot, stand),)), "set")
                check_call(self, told_by, (m, ((heap, lot, stand), (heap, lot, where_all_lie(heap)))), "set")
