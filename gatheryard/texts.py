"""Texts of HEAPS, RULES, rows of LOTS and DEEDS, and what they say."""

from gatheryard.errors import BadLine, Unfit
from gatheryard.heaps import is_lot
from gatheryard.programs import is_deed
from gatheryard.rules import areas_many

FIGURES = "0123456789"


def heap_text(heap):
    """The text of a HEAP."""
    m, objects, roots = heap
    lines = [line_of("object", [area] + list(ties)) for area, ties in objects]
    return "\n".join([line_of("areas", [m])] + lines + [line_of("roots", roots)])


def rule_text(rule):
    """The text of a RULE."""
    lines = [line_of("of", lot) + " " + line_of("pick", picks) for lot, picks in rule]
    return "\n".join([line_of("areas", [areas_many(rule)])] + lines)


def row_text(row):
    """The text of a row of LOTS."""
    return "\n".join([line_of("sweep", lot) for lot in row])


def deeds_text(deeds):
    """The text of DEEDS."""
    return "\n".join([line_of(deed[0], deed[1:]) for deed in deeds])


def heap_read(text):
    """The HEAP that has this text."""
    lines = lines_of(text)
    m = areas_read(lines)
    objects, at = [], 1
    while at < len(lines) and lines[at].split(" ")[0] == "object":
        objects.append(object_read(lines, at, m))
        at += 1
    roots = tuple(numbers_behind(lines, at, "roots"))
    if not is_ascending(roots):
        raise BadLine(at)
    if len(lines) > at + 1:
        raise BadLine(at + 1)
    named = list(roots) + [far for _, ties in objects for far in ties]
    if not all([one < len(objects) for one in named]):
        raise Unfit()
    return (m, tuple(objects), roots)


def rule_read(text):
    """The number of areas and the RULE that have this text."""
    lines = lines_of(text)
    m = areas_read(lines)
    pairs, at, lot = [], 1, sight_behind((0,), m)
    while lot != ():
        pairs.append((lot, picks_read(lines, at, lot)))
        lot = sight_behind(lot, m)
        at += 1
    if len(lines) > at:
        raise BadLine(at)
    return (m, tuple(pairs))


def row_read(text):
    """The tuple of LOTS that has this text."""
    lines, row = lines_of(text), []
    for at in range(len(lines)):
        lot = tuple(numbers_behind(lines, at, "sweep"))
        if lot == () or not is_ascending(lot):
            raise BadLine(at)
        row.append(lot)
    return tuple(row)


def deeds_read(text):
    """The tuple of DEEDS that has this text."""
    deeds = []
    for at, line in enumerate(lines_of(text)):
        deed = deed_in(line)
        if deed is None:
            raise BadLine(at)
        deeds.append(deed)
    return tuple(deeds)


def line_of(word, numbers):
    """The line of a word and numbers."""
    return " ".join([word] + [str(number) for number in numbers])


def lines_of(text):
    """The lines of a text: none if it is empty."""
    return [] if text == "" else text.split("\n")


def is_ascending(numbers):
    """Whether numbers ascend."""
    return all([here < there for here, there in zip(numbers, numbers[1:])])


def number_in(word):
    """The number that a word is, None if it is none as it is to be written."""
    if word == "" or not all([sign in FIGURES for sign in word]) or (word[0] == "0" and word != "0"):
        return None
    return int(word)


def numbers_in(words):
    """The list of the numbers that words are, None if one of them is none."""
    numbers = [number_in(word) for word in words]
    return None if None in numbers else numbers


def deed_in(line):
    """The DEED that has this line as its text, None if none has."""
    word, *others = line.split(" ")
    numbers = numbers_in(others)
    if numbers is None:
        return None
    deed = (word,) + tuple(numbers)
    # An area may be any number here.
    return deed if is_deed(deed, max(numbers, default=0) + 1) else None


def numbers_behind(lines, at, word):
    """The list of the numbers behind word in the line at this place; BadLine if they are none or there is no such."""
    words = lines[at].split(" ") if at < len(lines) else [""]
    numbers = numbers_in(words[1:])
    if words[0] != word or numbers is None:
        raise BadLine(at)
    return numbers


def areas_read(lines):
    """The number of areas that the first line tells."""
    numbers = numbers_behind(lines, 0, "areas")
    if len(numbers) != 1 or numbers[0] < 1:
        raise BadLine(0)
    return numbers[0]


def object_read(lines, at, m):
    """The area, of m, and the ties that the line at this place tells of an object."""
    numbers = numbers_behind(lines, at, "object")
    if numbers == [] or numbers[0] >= m or not is_ascending(numbers[1:]):
        raise BadLine(at)
    return (numbers[0], tuple(numbers[1:]))


def picks_read(lines, at, lot):
    """The picks that the line at this place tells of lot."""
    ahead = line_of("of", lot) + " pick "
    if at >= len(lines) or not lines[at].startswith(ahead):
        raise BadLine(at)
    picks = numbers_in(lines[at][len(ahead):].split(" "))
    if picks is None or not is_lot(tuple(picks), lot[-1] + 1) or not all([area in lot for area in picks]):
        raise BadLine(at)
    return tuple(picks)


def sight_behind(lot, m):
    """The LOT of two or more of m areas that comes next behind lot, () without."""
    # There may be far too many LOTS to list, so each is made from the one ahead of it.
    if lot[-1] < m - 1:
        return lot + (lot[-1] + 1,)
    shorter = lot[:-1]
    if shorter == ():
        return ()
    following = shorter[:-1] + (shorter[-1] + 1,)
    return following if len(following) > 1 else sight_behind(following, m)
