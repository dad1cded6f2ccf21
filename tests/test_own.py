"""Section 22: rules that look at the own area, too."""

from itertools import product
from random import Random
from unittest import TestCase

from gatheryard import errors, own, rules
from gatheryard.errors import TooMuch, Unfit
from gatheryard.heaps import dead_heap, is_heap
from gatheryard.moves import stands_of
from gatheryard.own import (as_own, comes_back, is_own_rule, is_turn, own_rule, own_run, own_swept, surely_frees,
                            widened)
from gatheryard.rules import is_rule, rule_by
from tests.checks import check_call, check_examples, check_things
from tests.makers import (all_heaps, great_heaps, lots, random_heap, random_rule, ring, small_and_great_rules,
                          some_course, some_heaps, subsets)
from tests.plain import heap_of_stand, lifeless, missed_by, own_play

EXAMPLES = """
>>> other, up = own_rule(2, "other"), own_rule(2, "greatest")
>>> other, widened(other), widened(up), as_own(widened(up)) == up
((((0, 1), 0, (1,)), ((0, 1), 1, (0,))), (((0, 1), (0, 1)),), (((0, 1), (1,)),), True)
>>> spin = (2, ((0, (1,)), (0, (0, 2)), (1, (1, 2))), ())
>>> [own[1][1][0] for own in own_run(spin, other, ((0,), (1,)))], is_turn(2, other, (spin, ((0,), (1,)))), is_turn(2, up, (spin, ((0,), (1,))))
([0, 1, 0], True, False)
>>> comes_back(spin, other, ((0,), (1,))), comes_back(spin, up, ((0,), (1,))), own_swept(own_run(spin, up, ((0,), (1,), (0,)))[-1], up, (1,))
((0, 1), None, (2, (), ()))
>>> surely_frees(2, up, ((0,), (1,))), surely_frees(2, other, ((0,), (1,))), surely_frees(2, other, ((0, 1),))
(True, False, True)
>>> own_swept(spin, (((0, 1), 0, (0, 1)), ((0, 1), 1, (1,))), (0,))
raises Unfit()
"""

WORDS = ("own", "other", "greatest", "next")
OTHER, UP = own_rule(2, "other"), own_rule(2, "greatest")
SPIN = (2, ((0, (1,)), (0, (0, 2)), (1, (1, 2))), ())
ONES = tuple([(area,) for area in range(6)])
# An OWN RULE by its picks, a row of one LOT, and the ties of a HEAP that it leads to a HEAP again behind 400 laps, or
# behind 401, by the areas in which its objects lie.
SLOW_PICKS = ("001203322422442155243112121224551025010113011011453351410015010122233032032052322202052400503"
              "333450350050050400121111231313212111242244451531313411335111415153222353555534225252434545354")
SLOW_ROW = ((0, 1, 3, 4, 5),)
SLOW_TIES = ((1, 3), (0, 2, 6, 7, 9, 10), (4, 8, 11), (4, 5, 11), (7,), (3, 11), (10,), (9,), (), (6, 11), (8,), ())
JUST_SO = (2, 1, 1, 5, 1, 3, 1, 1, 0, 5, 1, 1)
TOO_SLOW = (2, 1, 1, 3, 5, 5, 1, 1, 0, 5, 1, 5)


def sights(m):
    return [(lot, area) for lot in sorted(own for own in lots(m) if len(own) > 1) for area in lot]


def all_own_rules(m, plain):
    """All OWN RULES, or all plain ones, for m areas."""
    choices = [[(area,) for area in lot] if plain else [own for own in subsets(lot) if own] for lot, _ in sights(m)]
    return [tuple([(lot, area, picks) for (lot, area), picks in zip(sights(m), picked)])
            for picked in product(*choices)]


def random_own_rule(random, m, plain):
    found = []
    for lot, area in sights(m):
        picks = (random.choice(lot),) if plain else random.choice([own for own in subsets(lot) if own])
        found.append((lot, area, picks))
    return tuple(found)


def is_turn_plainly(rule, heap, row):
    """Whether the sweeps of row free nothing and lead heap, without roots, to itself."""
    heaps = own_play(heap, rule, row)
    return len(heap[1]) > 0 and heap[2] == () and row != () and heaps[-1] == heap


def laps_plainly(heap, rule, row, most):
    """What comes of row again and again by the HEAPS behind it; most times row at most."""
    gone = lifeless(heap)
    there = tuple([area if one in gone else None for one, (area, _) in enumerate(heap[1])])
    heap = heap_of_stand((heap[0], heap[1], ()), there)
    heaps = [heap]
    for _ in range(most + 1):
        if heaps[-1][1] == ():
            return None
        if heaps[-1] in heaps[:-1]:
            first = heaps.index(heaps[-1])
            return (first, len(heaps) - 1 - first)
        heaps.append(own_play(heaps[-1], rule, row)[-1])
    return "too much"


def pick_plainly(word, lot, area):
    """The pick of a word, as the document says it."""
    if word == "own":
        return area
    if word == "other":
        return min(set(lot) - {area})
    if word == "greatest":
        return max(lot)
    above = [one for one in lot if one > area]
    return min(above) if above else min(lot)


def played(seed, count):
    """HEAPS, each with a plain OWN RULE and a row."""
    random = Random(seed)
    for heap in some_heaps(count, 4, 6, seed + 1) + great_heaps()[::2] + [(1, (), ()), ring((0, 1, 2)), SPIN]:
        yield heap, random_own_rule(random, heap[0], True), some_course(random, heap[0], 4)


class OwnTest(TestCase):

    def test_examples(self):
        check_examples(self, EXAMPLES, {**vars(errors), **vars(rules), **vars(own)})

    def test_is_own_rule(self):
        for m in (1, 2):
            for rule in all_own_rules(m, False):
                self.assertEqual([is_own_rule(rule, many) for many in range(-1, 5)], [many == m for many in range(-1, 5)])
        random = Random(231)
        for m in (3, 4, 5, 6, 7):
            for plain in (True, False):
                rule = random_own_rule(random, m, plain)
                self.assertEqual([many for many in range(-3, 12) if is_own_rule(rule, many)], [m])
                self.assertIs(is_own_rule(rule[:-1], m), False)
                self.assertIs(is_own_rule(rule[1:] + rule[:1], m), False)
                self.assertIs(is_own_rule(rule + rule[-1:], m), False)
        check_things(self, lambda thing: is_own_rule(thing, 1), [()])
        check_things(self, lambda thing: is_own_rule(thing, 2), all_own_rules(2, False))
        check_things(self, lambda thing: is_own_rule(thing, 3), [random_own_rule(random, 3, False)])
        for thing in (((((0, 1), 0, ()), ((0, 1), 1, (1,)))), (((0, 1), 0, (2,)), ((0, 1), 1, (1,))),
                      (((0, 1), 0, (1, 0)), ((0, 1), 1, (1,))), (((0, 1), 1, (1,)), ((0, 1), 0, (1,))),
                      (((0, 1), 0, (1,)), ((0, 1), 0, (1,))), (((0, 1), False, (1,)), ((0, 1), 1, (1,))),
                      (((0, 1), 0, (1,)), ((0, 1), True, (1,))), (((0, 1), 0, (1,), ()), ((0, 1), 1, (1,))),
                      (((0, 1), (1,)), ((0, 1), (1,))), rule_by("all", 2), (((0, 2), 0, (0,)), ((0, 2), 2, (2,)))):
            self.assertIs(is_own_rule(thing, 2), False, thing)
        for m in (-10 ** 30, 0, 10 ** 30):
            for thing in ((), None, OTHER, True, 5, "", [], ((),) * 2000):
                self.assertIs(is_own_rule(thing, m), False)

    def test_rules_by_words(self):
        for m in range(1, 7):
            for word in WORDS:
                rule = own_rule(m, word)
                self.assertEqual(rule, tuple([(lot, area, (pick_plainly(word, lot, area),)) for lot, area in sights(m)]))
                self.assertIs(is_own_rule(rule, m), True)
            self.assertEqual(own_rule(m, "greatest"), as_own(rule_by("greatest", m)))
        for word in ("", "least", "Own", "turn"):
            self.assertRaises(Unfit, own_rule, 2, word)

    def test_wide_rules(self):
        random = Random(232)
        for m in (1, 2, 3, 4, 5, 6):
            for rule in (random_own_rule(random, m, True), random_own_rule(random, m, False), own_rule(m, "next")):
                wide = widened(rule)
                self.assertIs(is_rule(wide, m), True)
                for lot, picks in wide:
                    self.assertEqual(set(picks), {area for own, _, some in rule if own == lot for area in some})
        for m, rule in small_and_great_rules(233):
            self.assertIs(is_own_rule(as_own(rule), m), True)
            self.assertEqual(widened(as_own(rule)), rule)
            self.assertTrue(all(picks == dict(rule)[lot] for lot, _, picks in as_own(rule)))

    def test_what_surely_frees(self):
        random = Random(234)
        for m in (1, 2, 3, 3, 4, 4, 5, 6):
            for rule in [random_own_rule(random, m, True), random_own_rule(random, m, False), own_rule(m, "greatest"),
                         own_rule(m, "own"), as_own(random_rule(random, m, True))]:
                for some in (some_course(random, m, 4), ONES[:m], ONES[:m] + some_course(random, m, 3),
                             (tuple(range(m)),)):
                    self.assertIs(surely_frees(m, rule, some), missed_by(widened(rule), m, some) == [])

    def test_what_surely_frees_leaves_no_dead_object(self):
        random = Random(235)
        freed = 0
        for heap in some_heaps(150, 4, 6, 236):
            m = heap[0]
            rule = as_own(random_rule(random, m, True)) if random.randrange(2) else random_own_rule(random, m, True)
            row = some_course(random, m, 3) + ONES[:m]
            if surely_frees(m, rule, row):
                self.assertIs(comes_back(heap, rule, row), None)
                freed += 1
        self.assertGreater(freed, 50)

    def test_two_areas_are_freed_exactly_if_the_two_picks_are_one(self):
        heaps = [heap for many in (1, 2) for heap in all_heaps(2, many)] + [SPIN, ring((0, 1, 0)), ring((1, 0, 1, 0))]
        for rule in all_own_rules(2, True):
            row = ((0,), (1,))
            back = [comes_back(heap, rule, row) for heap in heaps]
            self.assertIs(all(own is None for own in back), rule[0][2] == rule[1][2])

    def test_sweeps_object_by_object(self):
        for heap, rule, row in played(237, 120):
            heaps = own_play(heap, rule, row)
            self.assertEqual(own_run(heap, rule, row), heaps)
            self.assertEqual(own_swept(heap, rule, row[0]), heaps[1])
            self.assertEqual(own_run(heap, rule, ()), [heap])
            self.assertTrue(all(is_heap(own) for own in heaps))

    def test_rules_as_own_ones_move_alike(self):
        random = Random(238)
        for heap in some_heaps(60, 5, 7, 239) + great_heaps():
            rule, row = random_rule(random, heap[0], True), some_course(random, heap[0], 5)
            found = [heap_of_stand(heap, stand) for stand in stands_of(heap, rule, row)]
            self.assertEqual(own_run(heap, as_own(rule), row), found)

    def test_turns_by_playing(self):
        found = 0
        rows = [(), ((0,),), ((0,), (1,)), ((1,), (0,), (0, 1)), ((1,), (1,))]
        for rule in all_own_rules(2, True):
            for heap in [(2, (), ()), SPIN] + list(all_heaps(2, 1)) + list(all_heaps(2, 2))[::3]:
                for row in rows:
                    good = is_turn_plainly(rule, heap, row)
                    self.assertIs(is_turn(2, rule, (heap, row)), good)
                    found += good
        self.assertGreater(found, 50)
        random = Random(240)
        for heap, rule, row in played(241, 150):
            for own in (heap, (heap[0], heap[1], ())):
                row = row * random.choice((1, 2, 3))
                self.assertIs(is_turn(heap[0], rule, (own, row)), is_turn_plainly(rule, own, row))

    def test_what_comes_back_is_a_turn(self):
        turned = 0
        for heap, rule, row in played(242, 150):
            back = comes_back(heap, rule, row)
            if back is not None:
                at = own_run(dead_heap(heap), rule, row * back[0])[-1]
                self.assertIs(is_turn(heap[0], rule, (at, row * back[1])), True)
                for less in range(1, back[1]):
                    self.assertIs(is_turn(heap[0], rule, (at, row * less)), False)
                turned += 1
        self.assertGreater(turned, 20)

    def test_is_turn_judges_things(self):
        turn = (SPIN, ((0,), (1,)))
        check_things(self, lambda thing: is_turn(2, OTHER, thing), [turn, (SPIN, ((0,), (1,), (0,), (1,)))])
        check_things(self, lambda thing: is_turn(1, (), thing), [])
        for thing in [(SPIN, ()), (SPIN, ((0,),)), (SPIN, ((0,), (1,), (2,))), (SPIN, ((0,), ())), (SPIN,), SPIN,
                      (SPIN[:2] + ((0,),), turn[1]), ((3,) + SPIN[1:], turn[1]), ((2, (), ()), turn[1]),
                      (SPIN, turn[1], ()), (SPIN, [(0,), (1,)]), (SPIN, ((1, 0), (1,)))]:
            self.assertIs(is_turn(2, OTHER, thing), False, thing)
        loose = (((0, 1), 0, (0, 1)), ((0, 1), 1, (0,)))
        for thing in (turn, None, [], (), 7, True):
            self.assertIs(is_turn(2, loose, thing), False)
        for m in (-10 ** 30, -1, 0, 1, 3, 10 ** 30):
            self.assertIs(is_turn(m, OTHER, turn), False)
            self.assertIs(is_turn(m, OTHER, ((m,) + SPIN[1:], turn[1])), False)
        self.assertIs(is_turn(2, own_rule(2, "own"), ((2, ((0, (1,)), (1, (0,))), ()), ((0,), (1,)))), True)

    def test_what_comes_back_by_the_heap_that_comes_again(self):
        for heap, rule, row in played(243, 150):
            self.assertEqual(comes_back(heap, rule, row), laps_plainly(heap, rule, row, 400))
        for heap, rule in product([SPIN, ring((0, 1, 0, 1)), (2, SPIN[1], (0,))], all_own_rules(2, True)):
            for row in (((0,),), ((1,), (0,)), ((0, 1),), ((0,), (0,), (1,))):
                self.assertEqual(comes_back(heap, rule, row), laps_plainly(heap, rule, row, 400))

    def test_four_hundred_laps_and_no_more(self):
        rule = tuple([(lot, area, (int(pick),)) for (lot, area), pick in zip(sights(6), SLOW_PICKS)])
        self.assertIs(is_own_rule(rule, 6), True)
        just_so, too_slow = [(6, tuple(zip(there, SLOW_TIES)), ()) for there in (JUST_SO, TOO_SLOW)]
        self.assertEqual(laps_plainly(just_so, rule, SLOW_ROW, 400), (16, 384))
        self.assertEqual(comes_back(just_so, rule, SLOW_ROW), (16, 384))
        self.assertEqual(laps_plainly(too_slow, rule, SLOW_ROW, 401), (17, 384))
        self.assertRaises(TooMuch, comes_back, too_slow, rule, SLOW_ROW)
        # Two sweeps a lap: the same comes again behind half as many laps.
        self.assertEqual(comes_back(too_slow, rule, SLOW_ROW * 2), (9, 192))
        # Where something is freed for ever the laps count all the same.
        self.assertRaises(TooMuch, comes_back, (6, too_slow[1] + ((0, ()),), ()), rule, SLOW_ROW)

    def test_rules_that_are_not_plain_are_unfit_first(self):
        loose = (((0, 1), 0, (1,)), ((0, 1), 1, (0, 1)))
        for heap in (SPIN, (2, (), ()), (2, SPIN[1], (0, 1, 2))):
            self.assertRaises(Unfit, own_swept, heap, loose, (0,))
            self.assertRaises(Unfit, own_run, heap, loose, ())
            self.assertRaises(Unfit, own_run, heap, loose, ((0,),))
            self.assertRaises(Unfit, comes_back, heap, loose, ((0,),))
        self.assertIs(surely_frees(2, loose, ((0, 1),)), True)

    def test_smallest(self):
        none, one = (1, (), ()), (1, ((0, (0,)),), ())
        self.assertEqual([own_rule(1, word) for word in WORDS], [()] * 4)
        self.assertEqual((widened(()), as_own(()), surely_frees(1, (), ((0,),))), ((), (), True))
        self.assertEqual((own_run(none, (), ((0,),)), own_swept(one, (), (0,))), ([none, none], none))
        self.assertEqual((comes_back(none, (), ((0,),)), comes_back(one, (), ((0,),))), (None, None))
        self.assertEqual(comes_back((1, ((0, ()),), (0,)), (), ((0,),)), None)
        self.assertEqual(comes_back((2, ((0, ()),), ()), OTHER, ((1,),)), (0, 1))
        self.assertIs(is_turn(1, (), (one, ((0,),))), False)
        self.assertIs(is_turn(2, OTHER, ((2, ((0, ()),), ()), ((1,),))), True)

    def test_what_holds_for_every_call(self):
        random = Random(244)
        for heap, rule, row in list(played(245, 6)) + [(SPIN, OTHER, ((0,), (1,))), (SPIN, UP, ((0,), (1,)))]:
            check_call(self, is_own_rule, (rule, heap[0]), "bool")
            check_call(self, widened, (rule,), "tuple")
            check_call(self, surely_frees, (heap[0], rule, row), "bool")
            check_call(self, own_swept, (heap, rule, row[0]), "tuple")
            check_call(self, own_run, (heap, rule, row), "list")
            check_call(self, is_turn, (heap[0], rule, (heap, row)), "bool")
            check_call(self, comes_back, (heap, rule, row), "tuple?")
            check_call(self, as_own, (random_rule(random, heap[0], False),), "tuple")
            check_call(self, own_rule, (heap[0], random.choice(WORDS)), "tuple")
        loose = random_own_rule(random, 3, False)
        check_call(self, own_swept, (ring((0, 1, 2)), loose, (0,)), "tuple")
        check_call(self, is_turn, (3, loose, (ring((0, 1, 2)), ((0,),))), "bool")
        check_call(self, comes_back, (random_heap(random, 3, 5, 30, 0), loose, ((0,), (1,))), "tuple?")
