"""A desk: requests to a Board, a text of lines, and the replies to them."""

from gatheryard.basics import check_places
from gatheryard.board import Board
from gatheryard.errors import BadLine, NoPlace, NothingDone, TooMuch, Unfit
from gatheryard.heaps import is_lot
from gatheryard.rules import rule_by
from gatheryard.texts import deed_in, heap_read, heap_text, lines_of, numbers_in, row_read, rule_text

# Of which RULES a new Board can be.
RULES = ("greatest", "least", "middle", "turn")

# The requests that have a text, and those of a word alone.
WITH_TEXT = ("board", "sweeps", "would")
ALONE = ("sweeps", "would", "undo", "redo", "heap", "rule", "names", "freed")

# How many figures a number has at most. No word of a request is longer.
MOST_FIGURES = 9


def desk(text):
    """The list of the replies to the requests of text."""
    requests = requests_in(text)
    for line, head, lines in requests:
        if not is_whole(head, lines):
            raise BadLine(line)
    board, replies = Board((1, (), ()), ()), []
    for _, head, lines in requests:
        board, reply = tried(board, asked_by(head), "\n".join(lines))
        replies.append(reply)
    return replies


def is_request(thing):
    """Whether thing is a string that is one request, whatever its text."""
    if not isinstance(thing, str):
        return False
    requests = requests_in(thing)
    return len(requests) == 1 and is_whole(requests[0][1], requests[0][2])


def requests_in(text):
    """For each line at which a request begins, or should, its number from 1, it, and the lines of its text."""
    requests = []
    for at, line in enumerate(lines_of(text)):
        if line.startswith(" ") and requests != []:
            requests[-1][2].append(line[1:])
        else:
            requests.append((at + 1, line, []))
    return requests


def is_whole(head, lines):
    """Whether head begins a request, and it has a text, of these lines, exactly if it wants one."""
    asked = asked_by(head)
    return asked is not None and (lines != []) == (asked[0] in WITH_TEXT)


def asked_by(head):
    """What a line asks for: a word, and the values behind it; None if it begins no request."""
    words = head.split(" ")
    if not all([len(word) <= MOST_FIGURES for word in words]):
        return None
    word = words[0]
    if word in ALONE:
        return (word,) if len(words) == 1 else None
    if word == "board":
        return (word, words[1]) if len(words) == 2 and words[1] in RULES else None
    if word == "sweep":
        return with_lot((word,), words[1:])
    if word == "pick":
        area = numbers_in(words[1:2])
        return with_lot((word, area[0]), words[3:]) if area and words[2:3] == ["of"] else None
    if word == "place":
        names = numbers_in(words[1:])
        return (word, names[0]) if names is not None and len(names) == 1 else None
    deed = deed_in(head)
    return None if deed is None else ("do", deed)


def with_lot(asked, words):
    """What is asked with the LOT that words are, of whatever areas, behind it; None if they are none."""
    numbers = numbers_in(words)
    if numbers is None or not is_lot(tuple(numbers), max(numbers, default=0) + 1):
        return None
    return asked + (tuple(numbers),)


def tried(board, asked, text):
    """The Board behind a request, and the reply to it; the Board as it is, and what refuses it, if it cannot be."""
    try:
        return worked(board, asked, text)
    except BadLine:
        return board, "refused BadLine"
    except NoPlace:
        return board, "refused NoPlace"
    except NothingDone:
        return board, "refused NothingDone"
    except TooMuch:
        return board, "refused TooMuch"
    except Unfit:
        return board, "refused Unfit"


def worked(board, asked, text):
    """The Board behind a request, and the reply to it."""
    word = asked[0]
    if word == "board":
        heap = heap_read(text)
        return Board(heap, rule_by(asked[1], heap[0])), "done"
    if word in ("do", "sweep", "sweeps", "pick"):
        do_on(board, asked, text)
        return board, "done"
    if word == "undo":
        return board, board.undo()
    if word == "redo":
        return board, board.redo()
    return board, answer_of(board, asked, text)


def do_on(board, asked, text):
    """Does on board the deed that is asked for."""
    word = asked[0]
    if word == "do":
        board.do(asked[1])
    elif word == "sweep":
        board.sweep(asked[1])
    elif word == "sweeps":
        board.sweeps(row_read(text))
    else:
        area, lot = asked[1:]
        if len(lot) == 1:
            raise Unfit()
        check_places(lot, board.heap()[0])
        board.pick(lot, area)


def answer_of(board, asked, text):
    """The answer to a request that does nothing."""
    word = asked[0]
    if word == "heap":
        return heap_text(board.heap())
    if word == "rule":
        return rule_text(board.rule())
    if word == "names":
        return figures_of(board.names())
    if word == "freed":
        return figures_of(board.freed())
    if word == "would":
        return figures_of(board.would_free(row_read(text)))
    place = board.place_of(asked[1])
    return "none" if place is None else str(place)


def figures_of(numbers):
    """Numbers in figures with a blank between, - for none."""
    if numbers == ():
        return "-"
    return " ".join([str(number) for number in numbers])
