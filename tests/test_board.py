"""Section 28: a Board."""

from copy import deepcopy
from inspect import signature
from random import Random
from unittest import TestCase

from gatheryard import board, errors
from gatheryard.board import Board
from gatheryard.errors import NoPlace, NothingDone, TooMuch, Unfit
from gatheryard.rules import rule_by
from tests.checks import as_lists, check_examples, half_lists, of_kind, outcome
from tests.makers import full_heap, great_heaps, lots, random_rule, ring, some_course, some_deeds, some_heaps
from tests.plain import heap_of_stand, left_at, next_stand, play, where_all_lie, with_picks

EXAMPLES = """
>>> ring = (2, ((0, (1,)), (1, (0,)), (0, ())), (0, 2))
>>> slate = Board(ring, (((0, 1), (1,)),))
>>> slate.sweep((0, 1)), slate.heap()[1], slate.do(("drop", 0)), slate.would_free(((0,), (1,))), slate.would_free(((1,), (0,)))
(None, ((1, (1,)), (1, (0,)), (0, ())), None, (0, 1), (0, 1))
>>> slate.sweep((1,)), slate.heap(), slate.names(), slate.freed(), slate.do(("new", 1)), slate.names(), slate.place_of(2), slate.place_of(1)
(None, (2, ((0, ()),), (0,)), (2,), (0, 1), None, (2, 3), 0, None)
>>> mate = slate.twin()
>>> slate.undo(), slate.undo(), slate.names(), slate == mate, slate.redo(), slate.redo(), slate == mate
('do', 'sweep', (0, 1, 2), False, 'sweep', 'do', True)
>>> slate.pick((0, 1), 0), slate.rule(), slate.log()[1:], slate == mate
(None, (((0, 1), (0,)),), (('drop', 0), ('sweep', (1,)), ('new', 1), ('pick', (0, 1), 0)), False)
>>> slate.do(("drop", 5))
raises Unfit()
>>> slate.pick((0, 1), 2)
raises NoPlace(place=2)
>>> slate.place_of(9)
raises NoPlace(place=9)
>>> Board(ring, (((0, 1), (1,)),)).undo()
raises NothingDone()
"""

RING = (2, ((0, (1,)), (1, (0,)), (0, ())), (0, 2))
UP = (((0, 1), (1,)),)


def fits(heap, deed):
    """Whether a program can do deed, by its own account of what is live."""
    alive, more = set(), set(heap[2])
    while more:
        alive |= more
        more = {far for near in alive for far in heap[1][near][1]} - alive
    word, named = deed[0], deed[1:]
    if word == "new":
        return named[0] < heap[0]
    if any(one >= len(heap[1]) for one in named):
        return False
    if word == "drop":
        return named[0] in heap[2]
    if word == "hold":
        return named[0] in alive and named[0] not in heap[2]
    tied = named[1] in heap[1][named[0]][1]
    return named[0] in alive and (tied if word == "untie" else not tied and named[1] in alive)


def behind(heap, deed):
    """The HEAP behind a deed of a program."""
    m, objects, roots = heap[0], [(area, set(ties)) for area, ties in heap[1]], set(heap[2])
    if deed[0] == "new":
        roots.add(len(objects))
        objects.append((deed[1], set()))
    elif deed[0] in ("tie", "untie"):
        objects[deed[1]][1].symmetric_difference_update({deed[2]})
    else:
        roots.symmetric_difference_update({deed[1]})
    return (m, tuple([(area, tuple(sorted(ties))) for area, ties in objects]), tuple(sorted(roots)))


class Plain:
    """A Board as the document tells it, that keeps the deeds and plays all of them for each look."""

    def __init__(self, heap, rule):
        self.first, self.deeds, self.back = (heap, rule), [], []

    def look(self, more=()):
        """The HEAP, the RULE, the names, the freed names behind all deeds, and behind more."""
        heap, rule = self.first
        names, freed = list(range(len(heap[1]))), set()
        for deed in self.deeds + list(more):
            if deed[0] == "pick":
                rule = with_picks(rule, deed[1], (deed[2],))
            elif deed[0] in ("sweep", "sweeps"):
                for lot in ([deed[1]] if deed[0] == "sweep" else deed[1]):
                    stand = next_stand(heap, rule, where_all_lie(heap), lot)
                    freed |= {name for name, area in zip(names, stand) if area is None}
                    names = [names[one] for one in left_at(stand)]
                    heap = heap_of_stand(heap, stand)
            else:
                if deed[0] == "new":
                    names.append(max(set(names) | freed, default=-1) + 1)
                heap = behind(heap, deed)
        return heap, rule, tuple(names), tuple(sorted(freed))

    def add(self, deed):
        self.deeds.append(deed)
        self.back = []

    def undo(self):
        self.back.append(self.deeds.pop())
        return self.name(self.back[-1])

    def redo(self):
        self.deeds.append(self.back.pop())
        return self.name(self.deeds[-1])

    def name(self, deed):
        return deed[0] if deed[0] in ("sweep", "sweeps", "pick") else "do"


def looks(own):
    return own.heap(), own.rule(), own.names(), own.freed()


def step(case, random, own, plain):
    """Does one thing on both, by chance."""
    heap, rule, names, freed = plain.look()
    word = random.choice(("do", "do", "do", "sweep", "sweeps", "pick", "undo", "undo", "redo", "redo", "would"))
    if word == "do":
        deed = some_deeds(random, heap, 1)[0]
        if not fits(heap, deed):
            case.assertRaises(Unfit, own.do, deed)
        elif len(behind(heap, deed)[1]) > 12:
            case.assertRaises(TooMuch, own.do, deed)
        else:
            case.assertIs(own.do(deed), None)
            plain.add(tuple(deed))
    elif word == "sweep":
        lot = random.choice(lots(heap[0]))
        case.assertIs(own.sweep(lot), None)
        plain.add(("sweep", lot))
    elif word == "sweeps":
        row = some_course(random, heap[0], 4) if random.randrange(6) else ()
        case.assertIs(own.sweeps(row), None)
        plain.add(("sweeps", row))
    elif word == "pick" and heap[0] > 1:
        lot = random.choice(lots(heap[0])[heap[0]:])
        area = random.choice(lot)
        case.assertIs(own.pick(lot, area), None)
        plain.add(("pick", lot, area))
    elif word in ("undo", "redo"):
        if plain.deeds if word == "undo" else plain.back:
            case.assertEqual(getattr(own, word)(), getattr(plain, word)())
        else:
            case.assertRaises(NothingDone, getattr(own, word))
    elif word == "would":
        row = some_course(random, heap[0], 4)
        case.assertEqual(own.would_free(row), tuple(sorted(set(plain.look([("sweeps", row)])[3]) - set(freed))))


class BoardTest(TestCase):

    def test_examples(self):
        check_examples(self, EXAMPLES, {**vars(errors), **vars(board)})

    def test_boards_beside_plain_deeds(self):
        random = Random(351)
        for heap in some_heaps(60, 4, 6, 352) + great_heaps()[::2] + [(1, (), ()), RING, full_heap(6, 12, (0, 11))]:
            rule = random_rule(random, heap[0], True)
            own, plain = Board(heap, rule), Plain(heap, rule)
            for _ in range(40):
                step(self, random, own, plain)
                self.assertEqual(looks(own), plain.look())
                self.assertEqual(own.log(), tuple(plain.deeds))
                self.check_names(own)

    def check_names(self, own):
        names, freed = own.names(), own.freed()
        self.assertEqual(len(names), len(own.heap()[1]))
        for place, name in enumerate(names):
            self.assertEqual(own.place_of(name), place)
        for name in freed:
            self.assertIs(own.place_of(name), None)
        for name in set(range(max(names + freed, default=0) + 3)) - set(names) - set(freed) | {-1, 10 ** 20}:
            with self.assertRaises(NoPlace) as caught:
                own.place_of(name)
            self.assertEqual(caught.exception.place, name)

    def test_what_was_taken_back_never_was(self):
        own = Board((1, (), ()), ())
        own.do(("new", 0))
        self.assertEqual(own.names(), (0,))
        own.do(("new", 0))
        self.assertEqual((own.undo(), own.names()), ("do", (0,)))
        self.assertRaises(NoPlace, own.place_of, 1)
        own.do(("drop", 0))
        self.assertRaises(NothingDone, own.redo)
        own.sweep((0,))
        own.do(("new", 0))
        self.assertEqual((own.names(), own.freed(), own.place_of(0)), ((1,), (0,), None))
        self.assertEqual((own.undo(), own.undo(), own.undo(), own.freed(), own.names()), ("do", "sweep", "do", (), (0,)))
        own.do(("new", 0))
        self.assertEqual(own.names(), (0, 1))

    def test_one_deed_for_all_sweeps_of_a_row(self):
        own = Board((2, ((0, (1,)), (1, (0,))), ()), UP)
        own.sweeps(((0,), (1,)))
        self.assertEqual((own.names(), own.log(), own.undo(), own.names()), ((), (("sweeps", ((0,), (1,))),), "sweeps", (0, 1)))
        own.sweeps(())
        self.assertEqual((own.log(), own.undo(), own.log(), own.redo()), ((("sweeps", ()),), "sweeps", (), "sweeps"))
        own.sweep((0,))
        self.assertEqual((own.heap()[1], own.undo()), (((1, (1,)), (1, (0,))), "sweep"))

    def test_what_raises_leaves_all_as_it_was(self):
        own = Board(RING, UP)
        own.sweep((0, 1))
        own.do(("drop", 2))
        own.undo()
        mate, log = own.twin(), own.log()
        for deed in (lambda: own.do(("drop", 1)), lambda: own.do(("new", 2)), lambda: own.do(("tie", 0, 1)),
                     lambda: own.do(("hold", 9)), lambda: own.sweep((2,)), lambda: own.sweeps(((0,), (1, 5))),
                     lambda: own.pick((0, 1), 2), lambda: own.would_free(((3,),)), lambda: own.place_of(7)):
            self.assertIn(outcome(deed)[1], (Unfit, NoPlace))
            self.assertEqual((own == mate, own.log()), (True, log))
        self.assertEqual((own.redo(), own.heap()[2]), ("do", (0,)))

    def test_errors_and_their_order(self):
        own = Board(RING, UP)
        for deed, place in [(lambda: own.sweep((0, 2, 3)), 2), (lambda: own.sweeps(((0,), (1, 4), (2,))), 4),
                            (lambda: own.would_free(((0, 1), (7,), (3,))), 7), (lambda: own.pick((0, 1), 5), 5),
                            (lambda: own.place_of(3), 3), (lambda: own.place_of(-1), -1)]:
            with self.assertRaises(NoPlace) as caught:
                deed()
            self.assertEqual(caught.exception.place, place)
        full = Board(full_heap(2, 12, (0,)), UP)
        self.assertRaises(Unfit, full.do, ("new", 2))
        self.assertRaises(TooMuch, full.do, ("new", 1))
        self.assertIs(full.do(("drop", 0)), None)
        self.assertIs(full.sweep((0, 1)), None)
        self.assertIs(full.do(("new", 1)), None)
        self.assertEqual(full.names(), (12,))
        self.assertRaises(NothingDone, Board(RING, UP).redo)

    def test_forty_deeds(self):
        own = Board((6, (), ()), rule_by("middle", 6))
        for turn in range(40):
            own.sweeps(tuple([(turn % 6,)] * 30))
        self.assertEqual(len(own.log()), 40)
        self.assertEqual([own.undo() for _ in range(40)], ["sweeps"] * 40)
        self.assertRaises(NothingDone, own.undo)
        self.assertEqual([own.redo() for _ in range(40)], ["sweeps"] * 40)
        self.assertRaises(NothingDone, own.redo)

    def test_twins_go_their_own_ways(self):
        random = Random(353)
        for heap in some_heaps(20, 4, 6, 354) + [RING]:
            rule = random_rule(random, heap[0], True)
            own, plain = Board(heap, rule), Plain(heap, rule)
            for _ in range(12):
                step(self, random, own, plain)
            mate, other = own.twin(), deepcopy(plain)
            self.assertIsNot(mate, own)
            self.assertIs(own == mate, True)
            self.assertIs(own != mate, False)
            for _ in range(12):
                step(self, random, mate, other)
                step(self, random, own, plain)
                self.assertEqual((looks(own), looks(mate)), (plain.look(), other.look()))
                self.assertIs(own == mate, plain.look() == other.look())
                self.assertIs(own != mate, plain.look() != other.look())
            for both in ((own, plain), (mate, other)):
                while both[1].deeds:
                    self.assertEqual(both[0].undo(), both[1].undo())
                self.assertRaises(NothingDone, both[0].undo)
                self.assertEqual(looks(both[0]), both[1].look())

    def test_equal_boards(self):
        own = Board(RING, UP)
        for other in (Board(RING, UP), Board(as_lists(RING), as_lists(UP)), own):
            self.assertIs(own == other, True)
            self.assertIs(own != other, False)
        more = Board(RING, UP)
        more.sweeps(())
        self.assertIs(own == more, True)
        for other in (Board(RING, (((0, 1), (0,)),)), Board((2, RING[1], (0,)), UP), Board(ring((0, 1)), UP), None, 0,
                      RING, (RING, UP), "Board", [], True):
            self.assertIs(own == other, False)
            self.assertIs(own != other, True)
            self.assertIs(other == own, False)
        here, there = Board((1, ((0, ()), (0, ())), (1,)), ()), Board((1, ((0, ()),), (0,)), ())
        here.sweep((0,))
        self.assertEqual((here.heap(), here.rule()), (there.heap(), there.rule()))
        self.assertIs(here == there, False)
        # One name more was freed, all else is alike.
        one, two = Board((1, ((0, ()),), (0,)), ()), Board((1, ((0, ()), (0, ())), (0,)), ())
        for own in (one, two):
            own.do(("drop", 0))
            own.sweep((0,))
        self.assertEqual((one.heap(), one.names()), (two.heap(), two.names()))
        self.assertIs(one == two, False)

    def test_boards_copy_what_they_are_given(self):
        heap, rule = as_lists(RING), as_lists(UP)
        own = Board(heap, rule)
        heap[1][0][1].append(2)
        heap[2].clear()
        rule[0][1][0] = 0
        self.assertEqual(looks(own), (RING, UP, (0, 1, 2), ()))
        deed, lot, row = ["tie", 0, 2], [0, 1], [[0], [1]]
        own.do(deed)
        own.sweep(lot)
        own.sweeps(row)
        own.pick(lot, 0)
        log = own.log()
        deed[1], lot[0] = 5, 7
        row[0].append(1)
        row.clear()
        self.assertEqual(own.log(), log)
        self.assertEqual(log, (("tie", 0, 2), ("sweep", (0, 1)), ("sweeps", ((0,), (1,))), ("pick", (0, 1), 0)))

    def test_lists_and_names_of_arguments(self):
        for turn in (as_lists, lambda value: half_lists(value, True), lambda value: half_lists(value, False)):
            own, other = Board(heap=turn(RING), rule=turn(UP)), Board(RING, UP)
            for method, args in [("do", (("tie", 2, 0),)), ("sweep", ((0, 1),)), ("sweeps", (((0,), (0, 1)),)),
                                 ("pick", ((0, 1), 0)), ("would_free", (((0,), (1,)),)), ("place_of", (1,)), ("undo", ()),
                                 ("redo", ()), ("heap", ()), ("rule", ()), ("names", ()), ("freed", ()), ("log", ())]:
                names = list(signature(getattr(own, method)).parameters)
                passed = [turn(arg) for arg in args]
                ahead = repr(passed)
                self.assertEqual(getattr(own, method)(**dict(zip(names, passed))), getattr(other, method)(*args))
                self.assertEqual(repr(passed), ahead)
                self.assertIs(own == other, True)

    def test_kinds_of_results(self):
        own = Board((2, RING[1], (2,)), UP)
        own.sweep((0, 1))
        self.assertEqual((own.names(), own.freed()), ((2,), (0, 1)))
        for found, kind in [(own.heap(), "tuple"), (own.rule(), "tuple"), (own.names(), "set"), (own.freed(), "set"),
                            (own.log(), "tuple"), (own.would_free(()), "set"), (own.place_of(2), "int")]:
            self.assertTrue(of_kind(found, kind))
        self.assertIs(type(own.undo()), str)
        self.assertIs(type(own.twin()), Board)

    def test_would_free_does_nothing(self):
        random = Random(355)
        for heap in great_heaps():
            own = Board(heap, random_rule(random, heap[0], True))
            row = some_course(random, heap[0], 30)
            found, mate = own.would_free(row), own.twin()
            self.assertIs(own == mate, True)
            self.assertEqual(own.log(), ())
            own.sweeps(row)
            self.assertEqual(own.freed(), found)
            self.assertEqual(own.heap(), heap_of_stand(heap, play(heap, mate.rule(), row)[-1]))

    def test_smallest(self):
        own = Board((1, (), ()), ())
        self.assertEqual((looks(own), own.log(), own.would_free(()), own.would_free(((0,),))),
                         (((1, (), ()), (), (), ()), (), (), ()))
        own.sweep((0,))
        own.do(("new", 0))
        self.assertEqual((own.names(), own.heap()), ((0,), (1, ((0, ()),), (0,))))
