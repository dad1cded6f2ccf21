"""Section 26: one judge."""

from itertools import permutations, product
from random import Random
from unittest import TestCase

from gatheryard import errors, judge, rules
from gatheryard.errors import Unfit
from gatheryard.judge import (comes_of, first_false, is_claim, is_paper_against, is_paper_for, is_so, paper, verdicts)
from gatheryard.rules import rule_by, rule_in
from tests.checks import NOTHINGS, as_lists, check_call, check_examples, check_things, half_lists
from tests.makers import (all_heaps, all_plain_rules, all_rules, great_heaps, lots, random_heap, random_rule, ring,
                          small_and_great_rules, some_course, some_heaps, sparse_rule, subsets)
from tests.plain import (all_dead_parts, areas, come_to_from, frees_all_plainly, freed_in, inside, is_freed_by, is_wide,
                         is_woven_plainly, lifeless, members, missed_by, offends, partings, rows_of)
from tests.test_told import all_told, bars, some_told

EXAMPLES = """
>>> court = (3, ((0, (1,)), (1, ()), (1, (3,)), (1, ()), (0, (5,)), (1, (4, 6)), (2, ())), (0,))
>>> line = (3, ((0, (1,)), (1, (2,)), (2, ()), (2, (1,))), ())
>>> wheel, high = (((0, 1), (1,)), ((0, 1, 2), (0,)), ((0, 2), (0,)), ((1, 2), (2,))), rule_by("greatest", 3)
>>> trio, pair, twos = (3, ((0, (1,)), (1, (2,)), (2, (0,))), ()), (2, ((0, (1,)), (1, (0,))), ()), ((0, 1), (0, 2), (1, 2))
>>> verdicts((("free", court, (1,), 3), ("free", court, (1, 2), 6), ("ever", line, (2,), 1), ("ever", pair, (0,), 1)), ((2, 3), (4, 5, 6), ((0,), (2,), (1,), (2,)), (0, 1)))
['for', 'against', 'for', 'against']
>>> verdicts((("good", wheel, ((0, 1, 2),)), ("good", wheel, twos), ("width", high, 1), ("width", wheel, 2)), (((0, 1, 2),), trio, ((0,), (1,), (2,)), (0, 1, 2)))
['for', 'against', 'for', 'against']
>>> verdicts((("fewest", wheel, 1), ("fewest", wheel, 0), ("told", 3, (((0, 1), 1),)), ("told", 3, (((0, 1), 1),))), ((1, 2, 0), (0, 0, 1, 0, 0, 0, 0), (0, 1, 2), (1, 0, 2)))
['for', 'against', 'for', 'none']
>>> comes_of(("good", high, twos), (("width", high, 1),)), comes_of(("width", wheel, 2), (("good", wheel, ((0, 1, 2),)),)), first_false((("width", high, 1), ("width", wheel, 2)))
(True, False, 1)
>>> is_so(("width", wheel, 0))
raises Unfit()
"""

WHEEL = (((0, 1), (1,)), ((0, 1, 2), (0,)), ((0, 2), (0,)), ((1, 2), (2,)))
HIGH, FREE = rule_by("greatest", 3), rule_by("all", 3)
PAIR = (2, ((0, (1,)), (1, (0,))), ())
TWINS = (2, ((0, (1,)), (1, (0,)), (0, (2, 3)), (1, ())), (3,))


def size_of(rule):
    return {0: 1, 1: 2, 4: 3, 11: 4, 26: 5, 57: 6}[len(rule)]


def changes_of(rule, m, order):
    """How many LOTS offend the row of these areas, one by one."""
    row = [(area,) for area in order]
    return sum(offends(row, lot, picks) for lot, picks in rule)


def so_plainly(claim):
    """Whether a CLAIM is so, by the definitions."""
    word, first, second = claim[:3]
    if word == "free":
        return claim[3] in freed_in(first, second)
    if word == "ever":
        return all(len(areas(first, part)) <= claim[3] for part in parts_ahead(first, second))
    m = first if word == "told" else size_of(first)
    if word == "good":
        return frees_all_plainly(first, m, second)
    if word == "width":
        return is_wide(first, m) <= second
    if word == "fewest":
        return min(changes_of(first, m, order) for order in permutations(range(m))) <= second
    return bars(first, second) == []


def parts_ahead(heap, goal):
    return [part for part in all_dead_parts(heap) if any(one in come_to_from(heap, part[:1]) for one in goal)]


def is_linked(rule, m, row):
    """Whether row is a LINKING."""
    if sorted(area for lot in row for area in lot) != list(range(m)):
        return False
    return not any(offends(row, lot, picks) for lot, picks in rule)


def lies(lot, course):
    return any(set(lot) <= set(own) for own in course)


def some_claims(seed):
    """CLAIMS of all kinds, so and not so, from the smallest to the bounds."""
    random = Random(seed)
    found = []
    for heap in some_heaps(60, 4, 6, seed + 1) + great_heaps() + [PAIR, TWINS, ring((0,)), ring((0, 1, 2))]:
        gone = sorted(lifeless(heap))
        for _ in range(2):
            lot = random.choice(lots(heap[0]))
            there = sorted(inside(heap, lot))
            if there:
                found.append(("free", heap, lot, random.choice(there)))
            if gone:
                goal = tuple(sorted(random.sample(gone, random.randint(1, len(gone)))))
                found.append(("ever", heap, goal, random.randint(1, heap[0])))
    for m, rule in small_and_great_rules(seed + 2)[::2]:
        ones = tuple([(area,) for area in range(m)])
        found += [("good", rule, some_course(random, m, 5)), ("good", rule, ones + some_course(random, m, 3))]
        found += [("good", rule, (tuple(range(m)),) * 30), ("width", rule, random.randint(1, m + 1))]
        plain = tuple([(lot, picks[-1:]) for lot, picks in rule])
        found.append(("fewest", plain, random.choice((0, 0, 1, 2, 4, 9, 57))))
    for m in (1, 2, 3, 4, 5, 6):
        found += [("told", m, some_told(random, m, among)) for among in (0, 10, 30, 60, 100) for _ in range(4)]
    return found


def steps(claim, others):
    """Those of others that come of claim by one of the rules of the document."""
    return [own for own in others if own == claim or is_step(claim, own)]


def is_step(claim, own):
    """Whether own comes of claim by one of the rules, as the document tells them."""
    kinds = (claim[0], own[0])
    if kinds == ("free", "free"):
        return claim[1] == own[1] and claim[3] == own[3] and set(claim[2]) <= set(own[2])
    if kinds == ("ever", "ever"):
        return claim[1] == own[1] and (claim[2] == own[2] and claim[3] < own[3]
                                       or claim[3] == own[3] and set(own[2]) < set(claim[2]))
    if claim[1] != own[1]:
        return False
    rule = claim[1]
    if kinds == ("good", "good"):
        return all(lies(lot, own[2]) for lot in claim[2])
    if kinds == ("good", "width"):
        return all(len(lot) <= own[2] for lot in claim[2])
    if kinds == ("width", "width"):
        return own[2] > claim[2]
    if kinds == ("width", "good"):
        return all(lies(lot, own[2]) for lot in lots(size_of(rule)) if len(lot) <= claim[2])
    if kinds == ("width", "fewest"):
        return claim[2] == 1
    if kinds == ("fewest", "fewest"):
        return own[2] > claim[2]
    if kinds == ("fewest", "width"):
        return claim[2] == 0 and own[2] == 1
    return kinds == ("told", "told") and set(own[2]) < set(claim[2])


def closure(claim, universe):
    """All of universe that come of claim, rule by rule."""
    found = [claim]
    for own in found:
        found += [other for other in steps(own, universe) if other not in found]
    return found


def rule_universe(rule, plain):
    """All CLAIMS of a RULE for few areas, of small numbers."""
    m = size_of(rule)
    courses = [own for own in subsets(lots(m)) if own]
    found = [("good", rule, course) for course in (courses if m < 3 else courses[::2] + [((0, 1, 2),)])]
    found += [("width", rule, most) for most in range(1, m + 3)]
    return found + [("fewest", rule, many) for many in range(4) if plain]


class JudgeTest(TestCase):

    def test_examples(self):
        check_examples(self, EXAMPLES, {**vars(errors), **vars(rules), **vars(judge)})

    def test_claims_are_so_by_their_definitions(self):
        so = {True: 0, False: 0}
        for claim in some_claims(321):
            self.assertIs(is_claim(claim), True, claim)
            self.assertIs(is_so(claim), so_plainly(claim), claim)
            so[is_so(claim)] += 1
        self.assertGreater(min(so.values()), 150)

    def test_papers_show_what_is_so(self):
        for claim in some_claims(322):
            found = paper(claim)
            self.assertIs(is_paper_for(claim, found), is_so(claim), claim)
            self.assertIs(is_paper_against(claim, found), not is_so(claim), claim)
            self.assertEqual(verdicts((claim,), (found,)), ["for" if is_so(claim) else "against"])

    def test_shuts_and_holds(self):
        for heap in some_heaps(50, 3, 4, 323) + list(all_heaps(2, 2))[::5]:
            for lot in lots(heap[0]):
                for one in inside(heap, lot):
                    claim = ("free", heap, lot, one)
                    shuts = [own for own in subsets(members(heap)) if is_paper_for(claim, own)]
                    holds = [own for many in range(1, len(heap[1]) + 1) for own in permutations(members(heap), many)
                             if is_paper_against(claim, own)]
                    self.assertEqual((shuts != [], holds != []), (is_so(claim), not is_so(claim)))
                    for own in shuts:
                        self.assertTrue({one} <= set(own) <= inside(heap, lot) - set(heap[2]))
                        self.assertTrue(all(near in own for near in members(heap) if set(heap[1][near][1]) & set(own)))
                    for own in holds:
                        self.assertTrue(all(far in heap[1][near][1] for near, far in zip(own, own[1:])))
                        self.assertTrue(own[-1] == one and set(own[1:]) <= inside(heap, lot))
                        self.assertTrue(own[0] in heap[2] or own[0] not in inside(heap, lot))

    def test_rows_and_parts(self):
        for heap in some_heaps(40, 2, 4, 324) + some_heaps(15, 3, 3, 325):
            for goal in subsets(sorted(lifeless(heap)))[1::2]:
                for most in range(1, heap[0] + 1):
                    claim = ("ever", heap, goal, most)
                    rows = [row for many in range(3) for row in product(lots(heap[0]), repeat=many)]
                    for row in rows[::3]:
                        good = all(len(lot) <= most for lot in row) and is_freed_by(heap, row, goal)
                        self.assertIs(is_paper_for(claim, row), good)
                    parts = [own for own in subsets(members(heap)) if is_paper_against(claim, own)]
                    self.assertEqual(sorted(parts), [part for part in parts_ahead(heap, goal)
                                                     if len(areas(heap, part)) > most])
                    self.assertIs(parts == [], is_so(claim))
                    if is_so(claim):
                        self.assertTrue(all(len(lot) <= most for lot in paper(claim)))
                        self.assertTrue(is_freed_by(heap, paper(claim), goal))
                    else:
                        self.assertFalse(any(is_freed_by(heap, row, goal) for row in rows_of(heap[0], most, 3)))

    def test_linkings_for_and_what_stands_against(self):
        random = Random(326)
        heaps = {2: list(all_heaps(2, 1)) + list(all_heaps(2, 2))[::3], 1: list(all_heaps(1, 1)),
                 3: [own for own in some_heaps(600, 3, 3, 327) if own[0] == 3 and own[2] == ()]}
        for rule in [()] + all_rules(2) + all_plain_rules(3)[::3] + [FREE]:
            m = size_of(rule)
            rows = partings(tuple(range(m)))
            for course in (some_course(random, m, 3), some_course(random, m, 4)):
                claim = ("good", rule, course)
                fit = [row for row in rows if is_paper_for(claim, row)]
                self.assertEqual(fit, [row for row in rows if is_linked(rule, m, row)
                                       and all(lies(lot, course) for lot in row)])
                self.assertIs(fit != [], is_so(claim))
                against = [own for own in heaps[m] if is_paper_against(claim, own)]
                self.assertTrue(against == [] or not is_so(claim))
                self.assertIs(missed_by(rule, m, course) == [], is_so(claim))
            for most in range(1, m + 2):
                claim = ("width", rule, most)
                fit = [row for row in rows if is_paper_for(claim, row)]
                self.assertEqual(fit, [row for row in rows if is_linked(rule, m, row) and max(map(len, row)) <= most])
                self.assertIs(fit != [], is_so(claim))
                woven = [lot for lot in lots(m) if is_paper_against(claim, lot)]
                self.assertEqual(woven, [lot for lot in lots(m) if len(lot) > most and is_woven_plainly(rule, lot)])
                self.assertIs(woven == [], is_so(claim))

    def test_orders_and_floors(self):
        random = Random(328)
        for rule in [()] + [own for own in all_rules(2) if len(own[0][1]) == 1] + all_plain_rules(3)[::3] + [
                random_rule(random, 4, True) for _ in range(4)]:
            m = size_of(rule)
            least = min(changes_of(rule, m, order) for order in permutations(range(m)))
            for many in range(4):
                claim = ("fewest", rule, many)
                for order in permutations(range(m)):
                    self.assertIs(is_paper_for(claim, order), changes_of(rule, m, order) <= many)
                self.assertIs(is_so(claim), least <= many)
                if m < 4:
                    floors = [(0,) * at + (number,) + (0,) * (2 ** m - 2 - at) for at in range(2 ** m - 1)
                              for number in (-1, 0, 1, 2, 3)]
                    self.assertFalse(is_so(claim) and any(is_paper_against(claim, own) for own in floors))
                if not is_so(claim):
                    floor = paper(claim)
                    self.assertGreater(floor[sorted(lots(m)).index(tuple(range(m)))], many)

    def test_orders_and_bars(self):
        random = Random(329)
        for m in (1, 2, 3, 4):
            for told in (all_told(m) if m < 4 else [some_told(random, 4, 30) for _ in range(30)]):
                claim = ("told", m, told)
                good = [order for order in permutations(range(m))
                        if all([area for area in order if area in lot][0] != own for lot, own in told)]
                self.assertEqual([order for order in permutations(range(m)) if is_paper_for(claim, order)], good)
                self.assertEqual([lot for lot in lots(m) if is_paper_against(claim, lot)], bars(m, told))
                self.assertIs(is_so(claim), good != [])

    def test_papers_are_judged_as_things(self):
        court = (3, ((0, (1,)), (1, ()), (1, (3,)), (1, ()), (0, (5,)), (1, (4, 6)), (2, ())), (0,))
        floor = (0, 0, 1, 0, 0, 0, 0)
        for claim, goods in [
            (("free", court, (1,), 3), [(2, 3)]), (("ever", TWINS, (2,), 1), [((0,),), ((1,), (0,))]),
            (("good", WHEEL, ((0, 1, 2),)), [((0, 1, 2),)]), (("width", HIGH, 1), [((0,), (1,), (2,))]),
            (("fewest", WHEEL, 1), [(1, 2, 0)]), (("told", 3, (((0, 1), 1),)), [(0, 1, 2), (2, 0, 1)]),
        ]:
            check_things(self, lambda thing: is_paper_for(claim, thing), goods)
        trio = (3, ((0, (1,)), (1, (2,)), (2, (0,))), ())
        for claim, goods in [
            (("free", court, (0, 1), 1), [(0, 1)]), (("ever", PAIR, (0,), 1), [(0, 1)]),
            (("good", WHEEL, ((0, 1), (0, 2), (1, 2))), [trio]), (("width", WHEEL, 2), [(0, 1, 2)]),
            (("told", 2, (((0, 1), 1),)), []),
            (("told", 3, (((0, 1), 1), ((0, 2), 0), ((1, 2), 2))), [(0, 1, 2)]),
        ]:
            check_things(self, lambda thing: is_paper_against(claim, thing), goods)
        for bad in (list(floor), floor[:-1], floor + (0,), (0, 0, 2) + floor[3:], (0, 0, True) + floor[3:], None,
                    (0, 0, "1") + floor[3:], (0, 0, 0) + floor[3:], (1, 0, 1) + floor[3:], (floor,), 1, [], True):
            self.assertIs(is_paper_against(("fewest", WHEEL, 0), bad), False, bad)
        self.assertIs(is_paper_against(("fewest", WHEEL, 0), floor), True)
        self.assertIs(is_paper_against(("fewest", WHEEL, 0), floor[:5] + (-1, 0)), True)
        self.assertIs(is_paper_against(("fewest", WHEEL, 0), floor[:5] + (-2, 0)), False)
        for bad in NOTHINGS:
            self.assertIs(is_paper_against(("fewest", WHEEL, 0), bad), False)

    def test_is_claim_judges_things(self):
        course = ((0, 1), (2,))
        check_things(self, is_claim, [("free", PAIR, (0, 1), 1), ("free", TWINS, (1,), 3), ("ever", TWINS, (0, 2), 2),
                                      ("told", 1, ()), ("good", (), ((0,),))])
        for good in (("good", HIGH, course), ("good", FREE, course * 40), ("width", FREE, 10 ** 30), ("width", (), 1),
                     ("fewest", HIGH, 0), ("fewest", (), 10 ** 30), ("told", 10 ** 30, ()),
                     ("told", 10 ** 30, (((0, 10 ** 29), 0),)), ("good", rule_by("middle", 8), ((7,), (0,)))):
            self.assertIs(is_claim(good), True, good)
        for bad in WRONG_CLAIMS:
            self.assertIs(is_claim(bad), False, bad)

    def test_claims_that_are_none_are_unfit_before_all_else(self):
        good = ("width", HIGH, 1)
        for bad in WRONG_CLAIMS + [None, 7, "free", (), True]:
            self.assertRaises(Unfit, is_so, bad)
            self.assertRaises(Unfit, paper, bad)
            self.assertRaises(Unfit, is_paper_for, bad, ((0,),))
            self.assertRaises(Unfit, is_paper_against, bad, None)
            self.assertRaises(Unfit, verdicts, (good, bad), (None, None))
            self.assertRaises(Unfit, verdicts, (bad,), ())
            self.assertRaises(Unfit, comes_of, bad, ())
            self.assertRaises(Unfit, comes_of, good, (good, bad))
            self.assertRaises(Unfit, first_false, (("width", WHEEL, 1), bad))
        for things in ((), (None,), (None, None, None)):
            self.assertRaises(Unfit, verdicts, (good, good), things)

    def test_claims_may_be_lists(self):
        for claim in some_claims(330)[::5]:
            for own in (as_lists(claim), half_lists(claim, True), half_lists(claim, False)):
                self.assertIs(is_so(own), is_so(claim))
                self.assertEqual(paper(own), paper(claim))
                self.assertIs(comes_of(own, [claim]), True)
                self.assertEqual(first_false([own]), None if is_so(claim) else 0)
                self.assertEqual(verdicts([own], [paper(claim)]), ["for" if is_so(claim) else "against"])
                self.assertEqual(verdicts([own], [as_lists(paper(claim))]), ["none"])

    def test_verdicts(self):
        claims = some_claims(331)[::4]
        things = [paper(claim) for claim in claims]
        self.assertEqual(verdicts(claims, things), ["for" if is_so(claim) else "against" for claim in claims])
        self.assertEqual(verdicts(tuple(claims), tuple([None] * len(claims))), ["none"] * len(claims))
        self.assertEqual(verdicts((), ()), [])

    def test_first_false(self):
        claims = some_claims(332)
        good, bad = [own for own in claims if is_so(own)], [own for own in claims if not is_so(own)]
        self.assertEqual(first_false(good), None)
        self.assertEqual(first_false(good[:7] + bad), 7)
        self.assertEqual((first_false(bad[:3]), first_false(())), (0, None))

    def test_what_comes_of_claims_of_rules(self):
        random = Random(333)
        for rule, plain in [((), True), (rule_by("least", 2), True), (rule_by("all", 2), False), (HIGH, True),
                            (FREE, False), (WHEEL, True)]:
            universe = rule_universe(rule, plain)
            few = universe if len(universe) < 30 else random.sample(universe, 22) + universe[-8:]
            for claim in few:
                found = closure(claim, universe)
                for own in universe:
                    self.assertIs(comes_of(own, (claim,)), own in found, (claim, own))
            for _ in range(20):
                sources = tuple(random.sample(few, min(3, len(few))))
                own = random.choice(universe)
                self.assertIs(comes_of(own, sources), any(comes_of(own, (claim,)) for claim in sources))
                self.assertIs(comes_of(own, ()), False)

    def test_what_comes_of_claims_of_heaps_and_of_what_is_told(self):
        heap = (3, ((0, (1,)), (1, (2,)), (2, ()), (2, (1,))), ())
        universes = [
            [("free", own, lot, one) for own in (heap, (3, heap[1], (3,))) for lot in lots(3) for one in inside(own, lot)],
            [("ever", own, goal, most) for own in (heap, (3, heap[1], (3,)))
             for goal in subsets(sorted(lifeless(own))) if goal for most in (1, 2, 3)],
            [("told", m, told) for m in (2, 3) for told in all_told(m)[::4]],
        ]
        for universe in universes:
            for claim in universe[::2]:
                found = closure(claim, universe)
                for own in universe:
                    self.assertIs(comes_of(own, (claim,)), own in found, (claim, own))

    def test_what_comes_of_so_is_so(self):
        random = Random(334)
        claims = some_claims(335)
        for claim in [own for own in claims if is_so(own)]:
            others = [own for own in claims if own[0] in ("good", "width", "fewest") and own[1] == claim[1]]
            for own in others + random.sample(claims, 3):
                if comes_of(own, (claim,)):
                    self.assertIs(is_so(own), True)

    def test_other_rules_heaps_and_areas_tell_nothing(self):
        self.assertIs(comes_of(("width", WHEEL, 3), (("width", HIGH, 1),)), False)
        self.assertIs(comes_of(("free", TWINS, (0, 1), 0), (("free", PAIR, (0, 1), 0),)), False)
        self.assertIs(comes_of(("free", TWINS, (0, 1), 0), (("free", TWINS, (0, 1), 1),)), False)
        self.assertIs(comes_of(("told", 3, ()), (("told", 2, ()),)), False)
        self.assertIs(comes_of(("ever", PAIR, (0,), 2), (("ever", TWINS, (0,), 1),)), False)
        self.assertIs(comes_of(("width", HIGH, 3), ()), False)
        self.assertIs(comes_of(("fewest", HIGH, 5), (("good", HIGH, ((0,), (1,), (2,))),)), True)
        self.assertIs(comes_of(("fewest", HIGH, 0), (("fewest", HIGH, 1),)), False)
        self.assertIs(comes_of(("width", HIGH, 3), (("width", HIGH, 10 ** 12),)), True)
        self.assertIs(comes_of(("good", HIGH, ((0, 1, 2),)), (("fewest", HIGH, 0),)), True)

    def test_great_claims_are_quick(self):
        random = Random(336)
        rule = random_rule(random, 6, True)
        claims = [("good", rule, tuple([random.choice(lots(6)) for _ in range(40)])) for _ in range(3)]
        claims += [("width", rule, most) for most in range(1, 8)] + [("fewest", rule, many) for many in (0, 5, 57)]
        claims += [("width", rule_in((5, 3, 1, 0, 2, 4)), 1), ("width", sparse_rule(random, 6), 2)]
        claims += [("ever", heap, tuple(sorted(lifeless(heap))), 3) for heap in great_heaps()
                   if lifeless(heap) and heap[0] == 6]
        for claim in claims:
            paper(claim)
            comes_of(claim, tuple(claims))

    def test_smallest(self):
        self.assertEqual([is_so(own) for own in (("good", (), ((0,),)), ("width", (), 1), ("fewest", (), 0),
                                                 ("told", 1, ()), ("free", ring((0,)), (0,), 0),
                                                 ("ever", ring((0,)), (0,), 1))], [True] * 6)
        self.assertEqual([paper(own) for own in (("good", (), ((0,),)), ("width", (), 1), ("fewest", (), 0),
                                                 ("told", 1, ()), ("free", ring((0,)), (0,), 0),
                                                 ("ever", ring((0,)), (0,), 1))],
                         [((0,),), ((0,),), (0,), (0,), (0,), ((0,),)])
        self.assertIs(comes_of(("fewest", (), 0), (("width", (), 9),)), True)

    def test_what_holds_for_every_call(self):
        random = Random(337)
        for claim in some_claims(338)[::9]:
            found = paper(claim)
            check_call(self, is_claim, (claim,), "bool")
            check_call(self, is_so, (claim,), "bool")
            check_call(self, paper, (claim,), "tuple")
            check_call(self, is_paper_for, (claim, found), "bool")
            check_call(self, is_paper_against, (claim, found), "bool")
            others = tuple(random.sample(some_claims(338), 3)) + (claim,)
            check_call(self, comes_of, (claim, others), "bool")
            check_call(self, first_false, (others,), "int?")
            first = verdicts((claim,), (found,))
            self.assertIsNot(verdicts((claim,), (found,)), first)
            self.assertEqual(verdicts(things=[found], claims=[claim]), first)
        self.assertRaises(Unfit, comes_of, claim=random_heap(random, 2, 2, 30, 0), claims=())


WRONG_CLAIMS = [
    ("free", PAIR, (0,), 1), ("free", PAIR, (0,), 2), ("free", PAIR, (0, 2), 0), ("free", PAIR, (), 0),
    ("free", PAIR, (0,), -1), ("free", PAIR, (0,), False), ("free", PAIR, (0,)), ("free", PAIR, (0,), 0, 0),
    ("free", HIGH, (0,), 0), ("free",), ("Free", PAIR, (0,), 0), ("ever", PAIR, (), 1), ("ever", PAIR, (0,), 0),
    ("ever", PAIR, (0,), 3), ("ever", TWINS, (3,), 1), ("ever", TWINS, (0, 3), 2), ("ever", PAIR, (2,), 1),
    ("ever", PAIR, (1, 0), 1), ("ever", PAIR, (0,), True), ("ever", PAIR, 0, 1), ("good", HIGH, ()),
    ("good", HIGH, ((3,),)), ("good", HIGH, ((),)), ("good", HIGH[:3], ((0,),)), ("good", HIGH + HIGH[:1], ((0,),)),
    ("good", HIGH, (0,)), ("good", 3, ((0,),)), ("good", HIGH, ((0,),), 1), ("width", HIGH, 0), ("width", HIGH, -1),
    ("width", HIGH, True), ("width", HIGH, None), ("width", None, 1), ("width", HIGH[::-1], 1), ("width", HIGH),
    ("fewest", FREE, 0), ("fewest", HIGH, -1), ("fewest", HIGH, False), ("fewest", HIGH[:-1], 1),
    ("fewest", PAIR, 1), ("told", 0, ()), ("told", -1, ()), ("told", True, ()), ("told", 2, (((0, 1), 2),)),
    ("told", 2, (((0, 2), 0),)), ("told", 2, (((0, 1), 0), ((0, 1), 1))), ("told", 2, (((0,), 0),)),
    ("told", 3, (((0, 2), 0), ((0, 1), 0))), ("told", 2, None), ("told", 2, ((),)), ("told", 2), ("", 2, ()),
    (0, HIGH, 1), (None, HIGH, 1), (("width",), HIGH, 1), (["width"], HIGH, 1), "width", ["told"],
]
