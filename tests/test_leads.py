"""Section 12: what leads where."""

from itertools import product
from random import Random
from unittest import TestCase

from gatheryard import errors, leads, rules
from gatheryard.errors import CanNot, NoPlace
from gatheryard.leads import (closed_in, first_lot, is_closed_in, is_lead_shown, is_weave, is_woven, lead_shown,
                              leads_in, reached, way_into, weave_of, woven_lots)
from gatheryard.rules import rule_by
from tests.checks import check_call, check_examples, check_things
from tests.makers import all_rules, lots, small_and_great_rules
from tests.plain import (all_closed_in, is_weave_plainly, is_woven_plainly, leads_within, picks_at, reached_by,
                         weaves, within_lot)

EXAMPLES = """
>>> great, turn = rule_by("greatest", 3), rule_by("turn", 3)
>>> either = (((0, 1), (0, 1)),) + great[1:]
>>> leads_in(turn, (0, 1, 2)), leads_in(turn, (0, 1)), lead_shown(turn, (0, 1, 2), 2, 0), reached(great, (0, 1, 2), 1)
(((0, 1), (1, 0), (1, 2), (2, 0)), ((0, 1),), (0, 1, 2), (1, 2))
>>> [woven_lots(own) for own in (turn, great, either)], closed_in(great, (0, 1, 2)), closed_in(either, (0, 1, 2))
([[(0, 1, 2)], [], [(0, 1)]], [(0,), (0, 1), (0, 1, 2)], [(0, 1), (0, 1, 2)])
>>> first_lot(either, (1, 2)), way_into(turn, (0, 1, 2), (1,)), is_weave(turn, (0, 1, 2), ((0, 1, 2), (0, 1), (1, 2)))
((1,), (0, 1, (0, 1)), True)
>>> weave_of(great, (0, 1, 2))
raises CanNot()
"""

TURN, GREAT, LOOSE = rule_by("turn", 3), rule_by("greatest", 3), rule_by("all", 3)


def showing(rule, lot, one, other):
    """All LOTS that show that one leads to other, ascending."""
    return sorted(own for own in within_lot(lot)
                  if one != other and one in own and other in own and other in picks_at(rule, own))


def rules_and_lots():
    """RULES, each beside each of its LOTS: all for up to three areas, many others."""
    found = [(m, rule) for m in (1, 2, 3) for rule in all_rules(m)]
    found += [(m, rule) for m, rule in small_and_great_rules(121) if m > 3]
    for m, rule in found:
        for lot in lots(m) if m < 5 else lots(m)[::4] + lots(m)[-3:]:
            yield m, rule, lot


class LeadsTest(TestCase):

    def test_examples(self):
        check_examples(self, EXAMPLES, {**vars(errors), **vars(rules), **vars(leads)})

    def test_leads_by_all_lots(self):
        for m, rule, lot in rules_and_lots():
            pairs = leads_within(rule, lot)
            self.assertEqual(leads_in(rule, lot), tuple(sorted(pairs)))
            for area in lot:
                self.assertEqual(reached(rule, lot, area), tuple(sorted(reached_by(pairs, area))))

    def test_lead_shown(self):
        for m, rule, lot in rules_and_lots():
            for one, other in product(lot, lot):
                shows = showing(rule, lot, one, other)
                self.assertEqual(shows != [], (one, other) in leads_in(rule, lot))
                if shows:
                    self.assertEqual(lead_shown(rule, lot, one, other), shows[0])
                else:
                    self.assertRaises(CanNot, lead_shown, rule, lot, one, other)

    def test_is_lead_shown(self):
        for m, rule in [(3, TURN), (3, LOOSE), (2, all_rules(2)[0]), (4, rule_by("turn", 4))]:
            for lot in lots(m):
                for one, other in product(lot, lot):
                    shows = showing(rule, lot, one, other)
                    for thing in lots(m + 1):
                        self.assertIs(is_lead_shown(rule, lot, one, other, thing), thing in shows)
        check_things(self, lambda thing: is_lead_shown(LOOSE, (0, 1, 2), 2, 1, thing), [(0, 1, 2), (1, 2)])
        check_things(self, lambda thing: is_lead_shown(LOOSE, (0, 1, 2), 0, 0, thing), [])
        check_things(self, lambda thing: is_lead_shown((), (0,), 0, 0, thing), [])

    def test_woven_and_closed_in_by_trying_all(self):
        for m, rule, lot in rules_and_lots():
            shut = all_closed_in(rule, lot)
            self.assertEqual(closed_in(rule, lot), shut)
            self.assertEqual(first_lot(rule, lot), shut[0])
            self.assertTrue(all(set(less) < set(more) for less, more in zip(shut, shut[1:])))
            self.assertIs(is_woven(rule, lot), is_woven_plainly(rule, lot))
            if len(lot) > 1:
                self.assertIs(is_woven(rule, lot), shut == [lot])

    def test_woven_lots(self):
        for m, rule in [(m, rule) for m in (1, 2, 3) for rule in all_rules(m)] + small_and_great_rules(122)[60:]:
            self.assertEqual(woven_lots(rule), sorted(lot for lot in lots(m) if is_woven_plainly(rule, lot)))

    def test_is_closed_in(self):
        for m, rule, lot in rules_and_lots():
            shut = all_closed_in(rule, lot)
            for thing in lots(m)[::m]:
                self.assertIs(is_closed_in(rule, lot, thing), thing in shut)
        check_things(self, lambda thing: is_closed_in(GREAT, (0, 1, 2), thing), [(0,), (0, 1), (0, 1, 2)])
        check_things(self, lambda thing: is_closed_in(GREAT, (1,), thing), [(1,)])
        check_things(self, lambda thing: is_closed_in((), (0,), thing), [(0,)])

    def test_way_into(self):
        for m, rule, lot in rules_and_lots():
            for inner in within_lot(lot)[::2] + [lot]:
                ways = [(one, other, showing(rule, lot, one, other)[0]) for one, other in leads_within(rule, lot)
                        if one not in inner and other in inner]
                if ways:
                    self.assertEqual(way_into(rule, lot, inner), min(ways))
                else:
                    self.assertRaises(CanNot, way_into, rule, lot, inner)
                    self.assertIs(is_closed_in(rule, lot, inner), True)

    def test_weaves(self):
        for m, rule, lot in rules_and_lots():
            if len(lot) > 1 and is_woven_plainly(rule, lot):
                weave = weave_of(rule, lot)
                self.assertIs(is_weave(rule, lot, weave), True)
                self.assertEqual(len(weave), len(lot))
                for area, own in zip(lot, weave):
                    self.assertTrue(len(own) > 1 and set(own) <= set(lot) and area in picks_at(rule, own))
                self.assertTrue(is_weave_plainly(lot, weave))
            else:
                self.assertRaises(CanNot, weave_of, rule, lot)

    def test_is_weave_by_trying_all(self):
        for m, rule, lot in rules_and_lots():
            if m > 3 or len(lot) < 2:
                continue
            good = weaves(rule, lot)
            self.assertEqual(good != [], is_woven_plainly(rule, lot))
            for thing in product(lots(m), repeat=len(lot)):
                self.assertIs(is_weave(rule, lot, thing), thing in good)

    def test_is_weave_of_great_lots(self):
        random = Random(123)
        for m, rule, lot in rules_and_lots():
            if m < 4 or len(lot) < 2 or not is_woven_plainly(rule, lot):
                continue
            choices = [[own for own in within_lot(lot) if len(own) > 1 and area in picks_at(rule, own)]
                       for area in lot]
            for _ in range(10):
                thing = tuple([random.choice(own) for own in choices])
                self.assertIs(is_weave(rule, lot, thing), is_weave_plainly(lot, thing))
                at = random.randrange(len(lot))
                wrong = random.choice(lots(m))
                good = len(wrong) > 1 and set(wrong) <= set(lot) and lot[at] in picks_at(rule, wrong)
                thing = thing[:at] + (wrong,) + thing[at + 1:]
                self.assertIs(is_weave(rule, lot, thing), good and is_weave_plainly(lot, thing))

    def test_is_weave_judges_things(self):
        check_things(self, lambda thing: is_weave(TURN, (0, 1, 2), thing),
                     [((0, 1, 2), (0, 1), (1, 2)), ((0, 2), (0, 1), (1, 2))])
        either = (((0, 1), (0, 1)),)
        check_things(self, lambda thing: is_weave(either, (0, 1), thing), [((0, 1), (0, 1))])
        for lot in ((0,), (1,)):
            check_things(self, lambda thing: is_weave(either, lot, thing), [])
            self.assertIs(is_weave(either, lot, (lot,)), False)
        self.assertIs(is_weave((), (0,), ((0,),)), False)
        self.assertIs(is_weave((), (0,), ()), False)
        self.assertIs(is_weave(LOOSE, (0, 1), ((0, 1), (0, 1), (0, 1))), False)
        self.assertIs(is_weave(LOOSE, (0, 1), ((0, 1, 2), (0, 1))), False)

    def test_errors(self):
        for place in (1, -1, 3, 10 ** 30):
            for args in ((TURN, (0, 2), place, 2), (TURN, (0, 2), place, place), (TURN, (0, 2), 2, place),
                         (TURN, (0, 2), 0, place), (TURN, (0, 2), place, 77)):
                with self.assertRaises(NoPlace) as caught:
                    lead_shown(*args)
                self.assertEqual(caught.exception.place, place)
            with self.assertRaises(NoPlace) as caught:
                reached(TURN, (0, 2), place)
            self.assertEqual(caught.exception.place, place)
        self.assertRaises(CanNot, lead_shown, TURN, (0, 2), 0, 0)
        self.assertRaises(CanNot, lead_shown, GREAT, (0, 1, 2), 2, 1)
        self.assertRaises(CanNot, way_into, LOOSE, (0, 1), (0, 1))
        self.assertRaises(CanNot, weave_of, TURN, (0, 1))
        self.assertRaises(CanNot, weave_of, (), (0,))

    def test_smallest(self):
        self.assertEqual((leads_in((), (0,)), reached((), (0,), 0), woven_lots(())), ((), (0,), []))
        self.assertEqual((closed_in((), (0,)), first_lot((), (0,)), is_woven((), (0,))), ([(0,)], (0,), False))
        self.assertRaises(CanNot, lead_shown, (), (0,), 0, 0)
        self.assertRaises(CanNot, way_into, (), (0,), (0,))

    def test_what_holds_for_every_call(self):
        for m, rule in [(1, ()), (3, TURN), (3, LOOSE), (6, rule_by("turn", 6)), (6, rule_by("all", 6))]:
            check_call(self, woven_lots, (rule,), "list")
            for lot in lots(m)[::3] + [tuple(range(m))]:
                check_call(self, leads_in, (rule, lot), "set")
                check_call(self, is_woven, (rule, lot), "bool")
                check_call(self, closed_in, (rule, lot), "list")
                check_call(self, first_lot, (rule, lot), "set")
                check_call(self, weave_of, (rule, lot), "tuple")
                check_call(self, is_weave, (rule, lot, (lot,) * len(lot)), "bool")
                check_call(self, is_closed_in, (rule, lot, lot), "bool")
                for area in (lot[0], lot[-1], 9):
                    check_call(self, reached, (rule, lot, area), "set")
                    check_call(self, lead_shown, (rule, lot, area, lot[0]), "set")
                    check_call(self, lead_shown, (rule, lot, lot[0], area), "set")
                for inner in within_lot(lot)[::5]:
                    check_call(self, way_into, (rule, lot, inner), "tuple")
                check_call(self, is_lead_shown, (rule, lot, lot[0], lot[-1], lot), "bool")
