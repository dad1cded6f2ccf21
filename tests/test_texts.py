"""Section 27: texts."""

import re
from random import Random
from unittest import TestCase

from gatheryard import errors, texts
from gatheryard.errors import BadLine, Unfit
from gatheryard.heaps import is_heap
from gatheryard.rules import is_rule, rule_by
from gatheryard.texts import deeds_read, deeds_text, heap_read, heap_text, row_read, row_text, rule_read, rule_text
from tests.checks import as_lists, check_call, check_examples, half_lists, outcome
from tests.makers import great_heaps, lots, small_and_great_rules, small_heaps, some_course, some_deeds, some_heaps

EXAMPLES = """
>>> ring = (2, ((0, (1,)), (1, (0, 1)), (1, ())), (2,))
>>> heap_text(ring), heap_read(heap_text(ring)) == ring
('areas 2\\nobject 0 1\\nobject 1 0 1\\nobject 1\\nroots 2', True)
>>> rule_text((((0, 1), (0, 1)),)), rule_read("areas 1"), rule_read("areas 2\\nof 0 1 pick 1")
('areas 2\\nof 0 1 pick 0 1', (1, ()), (2, (((0, 1), (1,)),)))
>>> row_text(((0,), (0, 2))), row_read(""), deeds_text((("new", 1), ("tie", 0, 3))), deeds_read("drop 12")
('sweep 0\\nsweep 0 2', (), 'new 1\\ntie 0 3', (('drop', 12),))
>>> heap_read("areas 2\\nobject 2\\nroots")
raises BadLine(line=1)
>>> rule_read("areas 3\\nof 0 1 pick 1\\nof 0 2 pick 2")
raises BadLine(line=2)
>>> heap_read("areas 2\\nobject 0")
raises BadLine(line=2)
>>> heap_read("areas 2\\nobject 0 1\\nroots")
raises Unfit()
"""

NUMBER = "(?:0|[1-9][0-9]*)"
READERS = {heap_read: heap_text, rule_read: lambda found: rule_text(found[1]), row_read: row_text,
           deeds_read: deeds_text}


def split_plainly(text):
    return text.split("\n") if text else []


def numbers_plainly(line, head):
    """The numbers behind head in a line that is head and numbers, else None."""
    if not re.fullmatch(f"{head}(?: {NUMBER})*", line):
        return None
    return [int(word) for word in line.split(" ")[1:]]


def ascends(numbers):
    return sorted(set(numbers)) == list(numbers)


def bad_heap_line(lines):
    """The first line that cannot stand in the text of a HEAP, None without."""
    told = numbers_plainly(lines[0], "areas") if lines else None
    if told is None or len(told) != 1 or told[0] == 0:
        return 0
    for at, line in list(enumerate(lines))[1:]:
        objects, roots = numbers_plainly(line, "object"), numbers_plainly(line, "roots")
        if roots is not None and ascends(roots):
            return at + 1 if len(lines) > at + 1 else None
        if not objects or objects[0] >= told[0] or not ascends(objects[1:]):
            return at
    return len(lines)


def bad_rule_line(lines):
    """The first line that cannot stand in the text of a RULE for up to ten areas, None without."""
    told = numbers_plainly(lines[0], "areas") if lines else None
    if told is None or len(told) != 1 or told[0] == 0:
        return 0
    wanted = sorted(lot for lot in lots(told[0]) if len(lot) > 1)
    for at, line in list(enumerate(lines))[1:]:
        if at > len(wanted):
            return at
        lot = wanted[at - 1]
        found = re.fullmatch(f"of {' '.join(map(str, lot))} pick ((?:{NUMBER} )*{NUMBER})", line)
        picks = [int(word) for word in found.group(1).split(" ")] if found else []
        if not picks or not ascends(picks) or not set(picks) <= set(lot):
            return at
    return None if len(lines) == len(wanted) + 1 else len(lines)


def bad_row_line(lines):
    for at, line in enumerate(lines):
        lot = numbers_plainly(line, "sweep")
        if not lot or not ascends(lot):
            return at
    return None


def bad_deeds_line(lines):
    for at, line in enumerate(lines):
        if not re.fullmatch(f"(?:new|hold|drop) {NUMBER}|(?:tie|untie) {NUMBER} {NUMBER}", line):
            return at
    return None


BAD = {heap_read: bad_heap_line, rule_read: bad_rule_line, row_read: bad_row_line, deeds_read: bad_deeds_line}


def some_texts(seed):
    """Pairs of a reader and a text that it reads."""
    random = Random(seed)
    for heap in some_heaps(40, 6, 8, seed + 1) + great_heaps() + small_heaps()[::20]:
        yield heap_read, heap_text(heap)
        yield row_read, row_text(some_course(random, heap[0], 5))
        yield deeds_read, deeds_text([deed for deed in some_deeds(random, heap, 8)])
    for m, rule in small_and_great_rules(seed + 2)[::12]:
        yield rule_read, rule_text(rule)


def spoilt_texts(random, text):
    """Texts near by: a sign, a word or a line put in, taken away or changed for another one."""
    signs = "0123456789 \n areas objctrpkfswn-+.~"
    for _ in range(12):
        at, sign = random.randrange(len(text) + 1), random.choice(signs)
        yield text[:at] + sign + text[at:]
        yield text[:at] + text[at + 1:]
        yield text[:at] + sign + text[at + 1:]
    for parts, between in ((text.split("\n"), "\n"), (text.split(" "), " ")):
        for _ in range(6):
            at, other = random.randrange(len(parts)), random.choice(parts)
            yield between.join(parts[:at] + [other] + parts[at:])
            yield between.join(parts[:at] + parts[at + 1:])
            yield between.join(parts[:at] + [other] + parts[at + 1:])
            yield between.join(parts[:at])
    yield text + "\n"
    yield "\n" + text
    yield " " + text
    yield text + " "


class TextsTest(TestCase):

    def test_examples(self):
        check_examples(self, EXAMPLES, {**vars(errors), **vars(texts)})

    def test_heaps(self):
        for heap in some_heaps(100, 6, 9, 341) + great_heaps() + small_heaps() + [(10 ** 11, ((10 ** 10, ()),), (0,))]:
            text = heap_text(heap)
            self.assertEqual(text.split("\n"), [f"areas {heap[0]}"]
                             + ["object " + " ".join(map(str, (area,) + ties)) for area, ties in heap[1]]
                             + [" ".join(["roots"] + [str(root) for root in heap[2]])])
            self.assertEqual(heap_read(text), heap)

    def test_rules(self):
        for m, rule in small_and_great_rules(342) + [(7, rule_by("turn", 7))]:
            text = rule_text(rule)
            self.assertEqual(text.split("\n"), [f"areas {m}"] + [
                f"of {' '.join(map(str, lot))} pick {' '.join(map(str, picks))}" for lot, picks in rule])
            if m < 7:
                self.assertEqual(rule_read(text), (m, rule))

    def test_rows_and_deeds(self):
        random = Random(343)
        for many in range(0, 60):
            row = tuple([random.choice(lots(6)) for _ in range(many)])
            self.assertEqual(row_text(row), "\n".join("sweep " + " ".join(map(str, lot)) for lot in row))
            self.assertEqual(row_read(row_text(row)), row)
            deeds = tuple([tuple(deed) for deed in some_deeds(random, great_heaps()[0], many)])
            self.assertEqual(deeds_text(deeds), "\n".join(" ".join(map(str, deed)) for deed in deeds))
            self.assertEqual(deeds_read(deeds_text(deeds)), deeds)
        self.assertEqual(row_read("sweep 7 100 999999999999"), ((7, 100, 999999999999),))
        self.assertEqual(deeds_read("new 999999999999\nuntie 0 0"), (("new", 999999999999), ("untie", 0, 0)))

    def test_no_other_text_is_read(self):
        random = Random(344)
        bad, good = 0, 0
        for reader, text in some_texts(345):
            for own in [text] + list(spoilt_texts(random, text)):
                lines = split_plainly(own)
                if len(lines) > 80 or re.search("[0-9]{13}", own) or re.match("areas [0-9]{2}", own):
                    continue
                line = BAD[reader](lines)
                found = outcome(reader, own)
                if line is not None:
                    self.assertEqual(found, ("error", BadLine, {"line": line}), (reader.__name__, own))
                    bad += 1
                elif found[0] == "result":
                    self.assertEqual(READERS[reader](found[1]), own)
                    self.assertTrue(reader is not heap_read or is_heap(found[1]))
                    self.assertTrue(reader is not rule_read or is_rule(found[1][1], found[1][0]))
                    good += 1
                else:
                    self.assertEqual(found, ("error", Unfit, {}))
                    self.assertIs(reader, heap_read)
                    many = own.count("object")
                    self.assertTrue(any(int(word) >= many for text_line in lines[1:]
                                        for word in text_line.split(" ")[1 if text_line[0] == "r" else 2:]))
        self.assertGreater(min(bad, good), 500)

    def test_lines_that_cannot_stand_there(self):
        for reader, text, line in [
            (heap_read, "", 0), (heap_read, "\n", 0), (heap_read, "areas 0\nroots", 0), (heap_read, "areas", 0),
            (heap_read, "areas 1 2\nroots", 0), (heap_read, "areas 01\nroots", 0), (heap_read, "Areas 1\nroots", 0),
            (heap_read, "areas -1\nroots", 0), (heap_read, "areas  1\nroots", 0), (heap_read, " areas 1\nroots", 0),
            (heap_read, "areas 1 \nroots", 0), (heap_read, "areas 1", 1), (heap_read, "areas 1\n", 1),
            (heap_read, "areas 1\nroots\n", 2), (heap_read, "areas 1\nroots\nobject 0", 2),
            (heap_read, "areas 1\nobject\nroots", 1), (heap_read, "areas 1\nobject 1\nroots", 1),
            (heap_read, "areas 1\nobject 0 1 0\nroots", 1), (heap_read, "areas 1\nobject 0 0 0\nroots", 1),
            (heap_read, "areas 1\nobject 0\nroots 0 0", 2), (heap_read, "areas 1\nobject 0\nroot 0", 2),
            (heap_read, "areas 1\nobject 0\nroots 00", 2), (heap_read, "areas 1\nobject 0 7\nroots x", 2),
            (heap_read, "areas 1\nobject 0 x\nroots", 1), (heap_read, "areas 1\nobjects 0\nroots", 1),
            (heap_read, "areas 1\nroots 5\nroots", 2),
            (rule_read, "", 0), (rule_read, "areas 0", 0), (rule_read, "areas 1\n", 1), (rule_read, "areas 2", 1),
            (rule_read, "areas 999999999999", 1), (rule_read, "areas 2\nof 0 1 pick 2", 1),
            (rule_read, "areas 2\nof 0 1 pick", 1), (rule_read, "areas 2\nof 0 1 pick ", 1),
            (rule_read, "areas 2\nof 0 1 pick 1 0", 1), (rule_read, "areas 2\nof 1 0 pick 1", 1),
            (rule_read, "areas 2\nof 0 1 pick 1\nof 0 1 pick 1", 2), (rule_read, "areas 2\nof 0 1 pick 0 0", 1),
            (rule_read, "areas 3\nof 0 1 pick 1\nof 0 1 2 pick 1\nof 0 2 pick 1", 3),
            (rule_read, "areas 3\nof 0 1 pick 1\nof 0 1 2 pick 1\nof 0 2 pick 0", 4),
            (rule_read, "areas 2\nof 0 1 pick 01", 1), (rule_read, "areas 2\nof 0  1 pick 1", 1),
            (rule_read, "areas 1\nof 0 pick 0", 1), (rule_read, "areas 2\nof 0 1 pick 1\n", 2),
            (row_read, "\n", 0), (row_read, "sweep", 0), (row_read, "sweep 1 0", 0), (row_read, "sweep 0\n", 1),
            (row_read, "sweep 0\nsweep 0 0", 1), (row_read, "sweep 0\n\nsweep 1", 1), (row_read, "sweeps 0", 0),
            (row_read, "sweep 0 ", 0), (row_read, "sweep 0\nsweep 01", 1), (row_read, " ", 0),
            (deeds_read, "\n", 0), (deeds_read, "new", 0), (deeds_read, "new 0 1", 0), (deeds_read, "tie 0", 0),
            (deeds_read, "hold 0\ndrop 0\ndrop", 2), (deeds_read, "sweep 0", 0), (deeds_read, "new 0\n", 1),
            (deeds_read, "new -1", 0), (deeds_read, "untie 0 1 2", 0), (deeds_read, "hold 1\nHold 1", 1),
        ]:
            self.assertEqual(outcome(reader, text), ("error", BadLine, {"line": line}), (reader.__name__, text))

    def test_rules_of_very_many_areas_are_read_line_by_line(self):
        many = 40
        lines = [f"areas {many}"] + ["of " + " ".join(map(str, range(last + 1))) + " pick 0" for last in range(1, many)]
        self.assertEqual(outcome(rule_read, "\n".join(lines)), ("error", BadLine, {"line": many}))
        behind = "of " + " ".join(map(str, list(range(many - 2)) + [many - 1])) + " pick 0 1"
        self.assertEqual(outcome(rule_read, "\n".join(lines + [behind])), ("error", BadLine, {"line": many + 1}))
        self.assertEqual(outcome(rule_read, "\n".join(lines + [behind, behind])), ("error", BadLine, {"line": many + 1}))
        wide = ["areas 999999999999"] + lines[1:] + ["of 0 1 pick 0"]
        self.assertEqual(outcome(rule_read, "\n".join(wide)), ("error", BadLine, {"line": many}))

    def test_ties_and_roots_that_are_no_objects_are_unfit_behind_all(self):
        for text in ("areas 1\nroots 0", "areas 2\nobject 0 1\nroots", "areas 2\nobject 0\nobject 1 0 1 2\nroots 0",
                     "areas 2\nobject 0\nroots 0 1", "areas 1\nobject 0 999999999999\nroots"):
            self.assertRaises(Unfit, heap_read, text)
            self.assertEqual(outcome(heap_read, text + "\n"), ("error", BadLine, {"line": len(text.split("\n"))}))
        self.assertEqual(heap_read("areas 2\nobject 0 1\nobject 1\nroots 1"), (2, ((0, (1,)), (1, ())), (1,)))

    def test_smallest(self):
        self.assertEqual((heap_text((1, (), ())), heap_read("areas 1\nroots")), ("areas 1\nroots", (1, (), ())))
        self.assertEqual((rule_text(()), rule_read("areas 1")), ("areas 1", (1, ())))
        self.assertEqual((row_text(()), row_read(""), deeds_text(()), deeds_read("")), ("", (), "", ()))

    def test_eighty_lines(self):
        row = ((0, 1),) * 80
        self.assertEqual(row_read(row_text(row)), row)
        heap = (6, tuple([(one % 6, (one,)) for one in range(78)]), tuple(range(78)))
        self.assertEqual(heap_read(heap_text(heap)), heap)
        self.assertEqual(outcome(heap_read, heap_text(heap).replace("object 5 77", "object 6 77")),
                         ("error", BadLine, {"line": 78}))

    def test_what_holds_for_every_call(self):
        for function, value in [(heap_text, great_heaps()[-1]), (heap_text, (1, (), ())), (rule_text, rule_by("all", 6)),
                                (rule_text, ()), (row_text, ((0,), (0, 2))), (row_text, ()),
                                (deeds_text, (("new", 1), ("tie", 0, 3))), (deeds_text, ())]:
            found = function(value)
            self.assertIs(type(found), str)
            for own in (as_lists(value), half_lists(value, True), half_lists(value, False)):
                ahead = repr(own)
                self.assertEqual(function(own), found)
                self.assertEqual(repr(own), ahead)
        self.assertEqual((heap_text(heap=(1, (), ())), rule_text(rule=()), row_text(row=()), deeds_text(deeds=())),
                         ("areas 1\nroots", "areas 1", "", ""))
        for reader, text in [(heap_read, "areas 1\nroots"), (rule_read, "areas 2\nof 0 1 pick 1"), (row_read, "sweep 0"),
                             (deeds_read, "hold 3"), (heap_read, ""), (row_read, "")]:
            check_call(self, reader, (text,), "tuple")
