"""Section 5: programs."""

from random import Random
from unittest import TestCase

from gatheryard import errors, heaps, programs
from gatheryard.errors import Unfit
from gatheryard.heaps import ahead_of, dead, is_heap, live
from gatheryard.programs import can_do, deaths, done, is_deed, run, script_of
from tests.checks import NOTHINGS, check_call, check_examples, check_things
from tests.makers import great_heaps, ring, small_heaps, some_deeds, some_heaps
from tests.plain import alive, as_set, lifeless

EXAMPLES = """
>>> run((2, (), ()), (("new", 0), ("new", 1), ("tie", 0, 1), ("drop", 1)))[2:]
[(2, ((0, ()), (1, ())), (0, 1)), (2, ((0, (1,)), (1, ())), (0, 1)), (2, ((0, (1,)), (1, ())), (0,))]
>>> ring = (2, ((0, (1,)), (1, (0,))), (0,))
>>> deaths(ring, (("new", 1), ("drop", 0), ("drop", 2))), can_do(ring, ("tie", 1, 1)), can_do(dead_heap(done(ring, ("drop", 0))), ("hold", 0))
((2, 2, 3), True, False)
>>> script_of(ring)
(('new', 0), ('new', 1), ('tie', 0, 1), ('tie', 1, 0), ('drop', 1))
>>> is_deed(("tie", 0, 99), 2), is_deed(("new", 2), 2), can_do(ring, ("hold", 5))
(True, False, False)
>>> done(ring, ("drop", 1))
raises Unfit()
"""


def every_deed(heap):
    """All DEEDS over the objects of heap, one that is not there and its areas, and one that is not there."""
    places = range(len(heap[1]) + 1)
    deeds = [("new", area) for area in range(heap[0] + 1)]
    deeds += [(word, near, far) for word in ("tie", "untie") for near in places for far in places]
    return deeds + [(word, one) for word in ("hold", "drop") for one in places]


def plain_done(heap, deed):
    """The HEAP behind deed by the table of the document, over Python sets; None if it cannot be done."""
    m, objects, roots = heap
    lies, ties, held = [own[0] for own in objects], [set(own[1]) for own in objects], set(roots)
    up, word, one = alive(heap), deed[0], deed[1]
    if word == "new":
        if one not in range(m):
            return None
        held.add(len(lies))
        lies.append(one)
        ties.append(set())
    elif word == "drop":
        if one not in held:
            return None
        held.remove(one)
    elif word == "hold":
        if one not in up or one in held:
            return None
        held.add(one)
    elif word == "tie":
        if one not in up or deed[2] not in up or deed[2] in ties[one]:
            return None
        ties[one].add(deed[2])
    else:
        if one not in up or deed[2] not in ties[one]:
            return None
        ties[one].remove(deed[2])
    return (m, tuple(zip(lies, [as_set(own) for own in ties])), as_set(held))


def fitting(heap, deeds):
    """Those of deeds that can be done one behind the other, at most 12 objects being there."""
    good = []
    for deed in deeds:
        behind = plain_done(heap, deed)
        if behind is not None and len(behind[1]) <= 12:
            heap = behind
            good.append(deed)
    return tuple(good)


def some_runs():
    """Pairs of a HEAP and DEEDS that can be done from there."""
    random = Random(55)
    starts = some_heaps(60, 4, 8, 5) + great_heaps() + [(3, (), ())] * 20
    return [(heap, fitting(heap, some_deeds(random, heap, 60))) for heap in starts]


class ProgramsTest(TestCase):

    def test_examples(self):
        check_examples(self, EXAMPLES, {**vars(errors), **vars(heaps), **vars(programs)})

    def test_every_deed(self):
        for heap in small_heaps()[::2] + great_heaps()[::3]:
            for deed in every_deed(heap):
                behind = plain_done(heap, deed)
                self.assertIs(can_do(heap, deed), behind is not None, (heap, deed))
                if behind is None:
                    self.assertRaises(Unfit, done, heap, deed)
                else:
                    self.assertEqual(done(heap, deed), behind)

    def test_objects_below_0_are_not_there(self):
        heap = (1, ((0, (0, 1)), (0, (0,))), (0, 1))
        for deed in (("tie", 1, -1), ("tie", -1, 1), ("untie", -2, 0), ("untie", 0, -1), ("hold", -1), ("drop", -1),
                     ("new", -1)):
            self.assertIs(can_do(heap, deed), False, deed)
            self.assertRaises(Unfit, done, heap, deed)

    def test_a_new_object_beyond_the_bound_raises_nothing(self):
        heap = great_heaps()[0]
        self.assertEqual(len(done(heap, ("new", 5))[1]), 13)

    def test_run(self):
        for heap, deeds in some_runs():
            wanted = [heap]
            for deed in deeds:
                wanted.append(plain_done(wanted[-1], deed))
            self.assertEqual(run(heap, deeds), wanted)
            self.assertTrue(all(is_heap(own) for own in wanted))

    def test_run_stops_at_what_cannot_be_done(self):
        for heap, deeds in some_runs()[::6]:
            last = run(heap, deeds)[-1]
            wrong = [deed for deed in every_deed(last) if plain_done(last, deed) is None][0]
            self.assertRaises(Unfit, run, heap, deeds + (wrong,))
            self.assertRaises(Unfit, deaths, heap, deeds + (wrong, ("new", 0)))

    def test_deaths(self):
        for heap, deeds in some_runs():
            rows = run(heap, deeds)
            wanted = []
            for one in range(len(rows[-1][1])):
                whens = [many for many, own in enumerate(rows) if one < len(own[1]) and one in lifeless(own)]
                wanted.append(min(whens, default=None))
            self.assertEqual(deaths(heap, deeds), tuple(wanted))

    def test_what_is_dead_stays_as_it_is(self):
        for heap, deeds in some_runs():
            rows = run(heap, deeds)
            for ahead, behind in zip(rows, rows[1:]):
                self.assertLessEqual(set(dead(ahead)), set(dead(behind)))
                for one in dead(ahead):
                    self.assertEqual(ahead_of(ahead, one), ahead_of(behind, one))

    def test_script_makes_each_heap(self):
        for heap in small_heaps() + great_heaps():
            script = script_of(heap)
            words = [deed[0] for deed in script]
            self.assertEqual(words, sorted(words, key=("new", "tie", "drop").index))
            for word in ("tie", "drop"):
                own = [deed for deed in script if deed[0] == word]
                self.assertEqual(own, sorted(own))
            self.assertEqual(run((heap[0], (), ()), script)[-1], heap)

    def test_is_deed(self):
        goods = [("new", 0), ("new", 2), ("tie", 0, 0), ("tie", 1, 10 ** 40), ("untie", 7, 1), ("hold", 0), ("drop", 99)]
        check_things(self, lambda thing: is_deed(thing, 3), goods)
        for bad in (("new", 3), ("new",), ("new", 0, 0), ("tie", 0), ("tie", 0, 1, 2), ("untie", 3), ("hold",),
                    ("hold", 0, 0), ("drop", 1, 2), ("drop", -1), ("New", 0), ("sweep", 0), (0, 0), (), ((), 0),
                    (("new",), 0), ("new", (0,)), ("hold", None), ("hold", "0"), ("new", 10 ** 40)):
            self.assertIs(is_deed(bad, 3), False, bad)

    def test_is_deed_beside_any_m(self):
        for m in (0, -1, -10 ** 30):
            self.assertIs(is_deed(("new", 0), m), False)
            self.assertIs(is_deed(("new", -1), m), False)
            self.assertIs(is_deed(("tie", 0, 1), m), True)
            for bad in NOTHINGS:
                self.assertIs(is_deed(bad, m), False)
        self.assertIs(is_deed(("new", 10 ** 30), 10 ** 30 + 1), True)
        self.assertIs(is_deed(("new", 10 ** 30), 10 ** 30), False)

    def test_deeds_behind_deeds(self):
        heap = ring((0, 1), (0,))
        gone = done(heap, ("drop", 0))
        self.assertEqual((live(gone), dead(gone)), ((), (0, 1)))
        for deed in (("tie", 0, 0), ("untie", 0, 1), ("hold", 1), ("drop", 0)):
            self.assertIs(can_do(gone, deed), False)
        self.assertEqual(deaths(gone, ()), (0, 0))
        self.assertEqual(deaths((1, (), ()), ()), ())
        self.assertEqual(script_of((4, (), ())), ())

    def test_what_holds_for_every_call(self):
        for heap, deeds in some_runs()[::9]:
            check_call(self, run, (heap, deeds), "list")
            check_call(self, deaths, (heap, deeds), "tuple")
            check_call(self, script_of, (heap,), "tuple")
            check_call(self, run, (heap, deeds + (("drop", 50),)), "list")
            check_call(self, deaths, (heap, deeds + (("drop", 50),)), "tuple")
            for deed in every_deed(heap)[::5]:
                check_call(self, can_do, (heap, deed), "bool")
                check_call(self, done, (heap, deed), "tuple")
                check_call(self, is_deed, (deed, heap[0]), "bool")
