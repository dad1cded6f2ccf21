"""Section 29: a desk."""

import re
from random import Random
from unittest import TestCase

from gatheryard import desk as desks, errors
from gatheryard.board import Board
from gatheryard.desk import desk, is_request
from gatheryard.errors import BadLine, NoPlace, NothingDone, TooMuch, Unfit
from gatheryard.rules import rule_by
from gatheryard.texts import deeds_text, heap_read, heap_text, row_read, row_text, rule_text
from tests.checks import NOTHINGS, check_examples, outcome
from tests.makers import full_heap, great_heaps, lots, ring, some_course, some_deeds, some_heaps

EXAMPLES = """
>>> yard = "board greatest\\n areas 2\\n object 0 1\\n object 1 0\\n object 0\\n roots 0 2\\n"
>>> desk(yard + "rule\\nsweep 0 1\\ndrop 0\\nwould\\n sweep 0\\n sweep 1\\nsweep 1\\nnames\\nheap\\nplace 1\\nplace 9\\nundo\\nundo\\nnames")
['done', 'areas 2\\nof 0 1 pick 1', 'done', 'done', '0 1', 'done', '2', 'areas 2\\nobject 0\\nroots 0', 'none', 'refused NoPlace', 'sweep', 'do', '0 1 2']
>>> desk(yard + "pick 0 of 0 1\\nrule\\npick 2 of 0 1\\nfreed\\nredo\\ntie 0 2\\ntie 0 2\\nsweeps\\n sweep 2\\nboard least\\n areas 1")
['done', 'done', 'areas 2\\nof 0 1 pick 0', 'refused NoPlace', '-', 'refused NothingDone', 'done', 'refused Unfit', 'refused NoPlace', 'refused BadLine']
>>> is_request("sweep 0 2"), is_request("sweep 2 0"), is_request("would"), is_request("board turn\\n x"), is_request("new 12")
(True, False, False, True, True)
>>> desk("undo\\n")
raises BadLine(line=2)
"""

NUMBER = "(?:0|[1-9][0-9]{0,8})"
ALONE = re.compile(f"(?:new|hold|drop|place) {NUMBER}|(?:tie|untie) {NUMBER} {NUMBER}|undo|redo|heap|rule|names|freed")
OVER_TEXT = re.compile("board (?:greatest|least|middle|turn)|sweeps|would")
OVER_LOT = re.compile(f"(?:sweep|pick {NUMBER} of) ({NUMBER}(?: {NUMBER})*)")


def is_head(head, many):
    """Whether a line begins a request with a text of so many lines, 0 for none."""
    lot = OVER_LOT.fullmatch(head)
    if lot:
        areas = [int(word) for word in lot.group(1).split(" ")]
        return many == 0 and areas == sorted(set(areas))
    return many == 0 if ALONE.fullmatch(head) else many > 0 and bool(OVER_TEXT.fullmatch(head))


def cut(text):
    """For each line that begins a request, or should, its number from 1, it, and the lines of its text."""
    found = []
    for at, line in enumerate(text.split("\n") if text else []):
        if line[:1] == " " and found:
            found[-1][2].append(line[1:])
        else:
            found.append((at + 1, line, []))
    return found


def bad_line(text):
    """The first line at which no request begins, None without."""
    bad = [at for at, head, lines in cut(text) if not is_head(head, len(lines))]
    return bad[0] if bad else None


def in_figures(numbers):
    return " ".join([str(number) for number in numbers]) if numbers else "-"


def replies(text):
    """The replies by a Board that is asked for each request in turn."""
    board, found = Board((1, (), ()), ()), []
    for _, head, lines in cut(text):
        try:
            board, reply = reply_to(board, head.split(" "), "\n".join(lines))
        except (BadLine, NoPlace, NothingDone, TooMuch, Unfit) as error:
            reply = "refused " + error.__class__.__name__
        found.append(reply)
    return found


def reply_to(board, words, text):
    word, numbers = words[0], [int(own) for own in words[1:] if own.isdigit()]
    if word == "board":
        heap = heap_read(text)
        return Board(heap, rule_by(words[1], heap[0])), "done"
    if word in ("undo", "redo"):
        return board, getattr(board, word)()
    if word in ("names", "freed"):
        return board, in_figures(getattr(board, word)())
    if word == "would":
        return board, in_figures(board.would_free(row_read(text)))
    if word == "place":
        place = board.place_of(numbers[0])
        return board, "none" if place is None else str(place)
    if word in ("heap", "rule"):
        return board, heap_text(board.heap()) if word == "heap" else rule_text(board.rule())
    if word == "sweep":
        board.sweep(tuple(numbers))
    elif word == "sweeps":
        board.sweeps(row_read(text))
    elif word == "pick":
        lot = tuple(numbers[1:])
        if len(lot) == 1:
            raise Unfit()
        for area in lot:
            if area >= board.heap()[0]:
                raise NoPlace(area)
        board.pick(lot, numbers[0])
    else:
        board.do((word,) + tuple(numbers))
    return board, "done"


def with_text(head, text):
    return "\n".join([head] + [" " + line for line in text.split("\n")])


def some_request(random, heap):
    """A request that suits heap, more or less."""
    word = random.choice(("do", "do", "do", "sweep", "sweeps", "pick", "undo", "redo", "heap", "rule", "names", "freed",
                          "place", "would", "board"))
    m = heap[0] + (random.randrange(8) == 0)
    if word == "do":
        return deeds_text(some_deeds(random, heap, 1))
    if word == "sweep":
        return "sweep " + " ".join(map(str, random.choice(lots(m))))
    if word in ("sweeps", "would"):
        return with_text(word, random.choice((row_text(some_course(random, m, 3)), "", "sweep 1 0", "sweep", "x")))
    if word == "pick":
        lot = random.choice(lots(m + 1))
        return f"pick {random.choice(lot + (0, 9))} of {' '.join(map(str, lot))}"
    if word == "place":
        return f"place {random.randrange(20)}"
    if word == "board":
        if random.randrange(3):
            return "names"
        text = heap_text(random.choice(some_heaps(5, 3, 4, random.randrange(100))))
        return with_text("board " + random.choice(("greatest", "least", "middle", "turn")),
                         random.choice((text, text, text + " 99", text[:-1], "", "areas 2\nroots 0")))
    return word


def some_script(random):
    heap = random.choice(some_heaps(5, 4, 6, random.randrange(1000)) + great_heaps()[:4] + [ring((0, 1, 2))])
    begun = with_text("board " + random.choice(("greatest", "least", "middle", "turn")), heap_text(heap))
    return "\n".join([begun] + [some_request(random, heap) for _ in range(random.randint(0, 36))])


class DeskTest(TestCase):

    def test_examples(self):
        check_examples(self, EXAMPLES, {**vars(errors), **vars(desks)})

    def test_a_desk_beside_a_board(self):
        random = Random(361)
        seen = set()
        for _ in range(250):
            text = some_script(random)
            self.assertIs(bad_line(text), None, text)
            found = desk(text)
            self.assertEqual(found, replies(text), text)
            seen |= {own for own in found if own.startswith("refused") or own in ("done", "-", "none", "do", "sweep")}
        self.assertLessEqual({"refused BadLine", "refused NoPlace", "refused NothingDone", "refused Unfit", "done", "-",
                              "none", "do", "sweep"}, seen)

    def test_texts_near_by(self):
        random = Random(362)
        bad = 0
        for _ in range(120):
            text = some_script(random)
            for _ in range(12):
                at, sign = random.randrange(len(text) + 1), random.choice("0123 9\n\n sweprundoarof-")
                own = random.choice((text[:at] + sign + text[at:], text[:at] + text[at + 1:], text[:at] + sign + text[at + 1:]))
                if re.search(" areas [0-9]{2}", own):
                    continue
                line = bad_line(own)
                if line is None:
                    self.assertEqual(desk(own), replies(own))
                else:
                    self.assertEqual(outcome(desk, own), ("error", BadLine, {"line": line}), own)
                    bad += 1
        self.assertGreater(bad, 200)

    def test_lines_at_which_no_request_begins(self):
        for text, line in [
            ("\n", 1), ("undo\n", 2), ("undo\n\nredo", 2), (" undo", 1), (" ", 1), (" \nundo", 1), ("undo\n x", 1),
            ("undo\n ", 1), ("names\nsweep 0\n 1\nx", 2), ("would", 1), ("would\nsweep 0", 1), ("sweeps\n\n sweep 0", 1),
            ("sweeps\n sweep 0\n\n sweep 1", 3), ("board\n areas 1\n roots", 1), ("board all\n areas 1\n roots", 1),
            ("board least", 1), ("board least\nareas 1\n roots", 1), ("board  least\n areas 1\n roots", 1),
            ("boards least\n areas 1\n roots", 1), ("new", 1), ("new 1 2", 1), ("new 01", 1), ("new 1234567890", 1),
            ("new -1", 1), ("new  1", 1), ("new 1 ", 1), ("sweep", 1), ("sweep 1 0", 1), ("sweep 0 0", 1), ("sweep 0 x", 1),
            ("sweep 0000000000", 1), ("pick 0 of", 1), ("pick 0", 1), ("pick of 0 1", 1), ("pick 0 0 1", 1), ("pick 0 at 0 1", 1),
            ("pick 0 of 1 0", 1), ("pick 0 1 of 0 1", 1), ("place", 1), ("place x", 1), ("place 1 2", 1), ("Undo", 1),
            ("names 1", 1), ("heap\nx\ny", 2), ("do new 1", 1), ("done", 1), ("-", 1), ("undo undo", 1), ("undo ", 1),
            ("sweeps 0\n sweep 0", 1), ("would\n x\nwould", 3), ("hold 0\nold 0", 2), ("drop\n 0", 1), ("tie 0\nuntie 0 1", 1),
        ]:
            self.assertEqual(outcome(desk, text), ("error", BadLine, {"line": line}), text)
            self.assertEqual(bad_line(text), line)

    def test_no_request_is_done_ahead_of_a_bad_line(self):
        self.assertEqual(outcome(desk, "board least\n x\nundo\nnothing"), ("error", BadLine, {"line": 4}))

    def test_what_is_refused_and_by_which_name(self):
        yard = with_text("board greatest", heap_text((3, ((0, (1,)), (1, (0,)), (2, ())), (0, 2))))
        for request, name in [
            ("undo", "NothingDone"), ("redo", "NothingDone"), ("new 3", "Unfit"), ("new 999999999", "Unfit"),
            ("tie 0 1", "Unfit"), ("drop 1", "Unfit"), ("hold 7", "Unfit"), ("sweep 3", "NoPlace"),
            ("sweep 0 999999999", "NoPlace"), ("sweeps\n sweep 0\n sweep 4", "NoPlace"), ("sweeps\n sweep", "BadLine"),
            ("sweeps\n sweep 7\n x", "BadLine"), ("would\n sweep 0\n ", "BadLine"), ("would\n sweep 3", "NoPlace"),
            ("pick 0 of 0", "Unfit"), ("pick 0 of 9", "Unfit"), ("pick 7 of 9", "Unfit"), ("pick 0 of 0 3", "NoPlace"),
            ("pick 2 of 0 1", "NoPlace"), ("pick 9 of 0 9", "NoPlace"), ("place 3", "NoPlace"),
            ("board least\n areas 1", "BadLine"), ("board least\n areas 1\n roots 0", "Unfit"),
            ("board least\n areas 1\n roots 0\n ", "BadLine"), ("board least\n areas 0\n roots", "BadLine"),
            ("board turn\n ", "BadLine"), ("board turn\n areas 2\n object 0 1\n roots", "Unfit"),
            ("sweeps\n  sweep 0", "BadLine"), ("sweeps\n  ", "BadLine"), ("sweeps\n \n ", "BadLine"),
        ]:
            self.assertEqual(desk(f"{yard}\n{request}"), ["done", "refused " + name], request)
            # What is refused changes nothing.
            both = desk(f"{yard}\nsweep 0\nsweep 1\nundo\n{request}\nheap\nrule\nnames\nredo")
            alone = desk(f"{yard}\nsweep 0\nsweep 1\nundo\nheap\nrule\nnames\nredo")
            if name != "NothingDone":
                self.assertEqual(both[:4] + both[5:], alone)
        full = with_text("board middle", heap_text(full_heap(2, 12, (0,))))
        self.assertEqual(desk(full + "\nnew 1\nnew 2"), ["done", "refused TooMuch", "refused Unfit"])

    def test_empty_texts(self):
        yard = with_text("board greatest", heap_text((1, ((0, ()),), ())))
        self.assertEqual(desk(yard + "\nwould\n \nsweeps\n \nnames\nundo\nsweeps\n sweep 0\nnames\nfreed\nwould\n sweep 0"),
                         ["done", "-", "done", "0", "sweeps", "done", "-", "0", "-"])

    def test_a_desk_holds_a_board_at_first(self):
        self.assertEqual(desk("heap\nrule\nnames\nfreed\nundo\nplace 0\nnew 0\nnames\nplace 0"),
                         ["areas 1\nroots", "areas 1", "-", "-", "refused NothingDone", "refused NoPlace", "done", "0", "0"])
        self.assertEqual(desk(""), [])
        # Each call begins anew.
        self.assertEqual(desk("names\nnew 0"), ["-", "done"])
        self.assertEqual(desk("names"), ["-"])

    def test_a_new_board_takes_nothing_over(self):
        text = "new 0\nundo\nboard turn\n areas 1\n object 0\n roots\nredo\nundo\nfreed\nsweep 0\nfreed\nundo\nnames"
        self.assertEqual(desk(text), ["done", "do", "done", "refused NothingDone", "refused NothingDone", "-", "done", "0",
                                      "sweep", "0"])
        for word in ("greatest", "least", "middle", "turn"):
            self.assertEqual(desk(f"board {word}\n areas 6\n roots\nrule")[1], rule_text(rule_by(word, 6)))

    def test_is_request(self):
        random = Random(363)
        for _ in range(60):
            for _, head, lines in cut(some_script(random)):
                self.assertIs(is_request("\n".join([head] + [" " + line for line in lines])), True)
        for thing in ("undo", "would\n ", "would\n anything at all\n ", "board least\n \n \n x", "sweeps\n  ", "place 0",
                      "pick 0 of 1", "pick 5 of 0 1", "sweep 0", "new 999999999", "tie 0 0", "board middle\n \u00e9"):
            self.assertIs(is_request(thing), True, thing)
        for thing in ("", " ", "\n", "undo\n", "\nundo", "undo\nredo", "undo\n x", " undo", "would", "would\nsweep 0",
                      "board least\n areas 1\nundo", "sweep 2 0", "new 1234567890", "new \u00b2", "new \u0663", "sweep \uff11",
                      "new 1\r", "undo\r\n", "new\t1", "new " + "1" * 5000, "place +1", "board least ", "pick 1 of 0  1",
                      "would \n x", "would\n x\n\n y"):
            self.assertIs(is_request(thing), False, thing)
        for thing in NOTHINGS + (b"undo", ["undo"], ("undo",), 12.5):
            self.assertIs(is_request(thing), False, thing)

    def test_what_holds_for_every_call(self):
        random = Random(364)
        text = some_script(random)
        first = desk(text)
        self.assertIs(type(first), list)
        self.assertTrue(all(type(reply) is str for reply in first))
        self.assertEqual(desk(text=text), first)
        again = desk(text)
        again.append(None)
        self.assertEqual(desk(text), first)
        self.assertIs(is_request(thing="undo"), True)
        self.assertIs(is_request(thing=None), False)

    def test_forty_deeds(self):
        yard = with_text("board middle", heap_text(great_heaps()[1]))
        text = "\n".join([yard] + [with_text("sweeps", row_text(((0, 1), (2, 3)) * 15))] * 40 + ["undo"] * 41)
        self.assertEqual(desk(text), ["done"] * 41 + ["sweeps"] * 40 + ["refused NothingDone"])
