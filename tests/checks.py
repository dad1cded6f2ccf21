"""Checks that many tests share: the document's examples, and what holds for every call."""

from copy import deepcopy
from inspect import signature


def outcome(function, *args, **named):
    """What a call comes to: its result, or the class and the attributes of its error."""
    try:
        return ("result", function(*args, **named))
    except Exception as error:
        return ("error", error.__class__, vars(error))


def told(text, names):
    """How the document writes what an expression comes to."""
    try:
        return repr(eval(text, names))
    except (LookupError, ValueError) as error:
        inner = ", ".join(f"{name}={value!r}" for name, value in vars(error).items())
        return f"raises {error.__class__.__name__}({inner})"


def check_examples(case, text, names):
    """Runs each line behind >>> and compares it with the line below, if that is none itself."""
    lines = [line.strip() for line in text.strip().splitlines()]
    for at, line in enumerate(lines):
        if not line.startswith(">>> "):
            continue
        source = line[4:]
        answer = lines[at + 1] if at + 1 < len(lines) and not lines[at + 1].startswith(">>>") else None
        with case.subTest(source):
            if answer is None:
                exec(source, names)
            else:
                case.assertEqual(told(source, names), answer)


def as_lists(value):
    """The value with lists in the place of tuples, at every depth."""
    if isinstance(value, (list, tuple)):
        return [as_lists(inner) for inner in value]
    return value


def half_lists(value, turn):
    """The value with lists in the place of tuples at every second depth."""
    if isinstance(value, (list, tuple)):
        inner = [half_lists(own, not turn) for own in value]
        return inner if turn else tuple(inner)
    return value


def without_lists(value):
    """Whether value is made of tuples, numbers, strings, True, False and None alone."""
    if isinstance(value, tuple):
        return all(without_lists(inner) for inner in value)
    return value is None or isinstance(value, (int, str))


def of_kind(value, kind):
    """Whether value is of the kind that the document states: list, tuple, set, bool, int, with ? for None."""
    if kind.endswith("?"):
        return value is None or of_kind(value, kind[:-1])
    if kind == "list":
        return type(value) is list and all(without_lists(inner) for inner in value)
    if not without_lists(value):
        return False
    if kind == "set":
        return type(value) is tuple and all(one < other for one, other in zip(value, value[1:]))
    return type(value) is {"tuple": tuple, "bool": bool, "int": int}[kind]


def check_call(case, function, args, kind):
    """Checks what holds for every call of a function, its result being of this kind."""
    names = list(signature(function).parameters)
    first = outcome(function, *args)
    if first[0] == "result":
        case.assertTrue(of_kind(first[1], kind), (function.__name__, args, first))
    for turn in (as_lists, lambda value: half_lists(value, True), lambda value: half_lists(value, False)):
        passed = [arg if name == "thing" else turn(arg) for name, arg in zip(names, args)]
        ahead = deepcopy(passed)
        case.assertEqual(outcome(function, *passed), first, (function.__name__, passed))
        case.assertEqual(repr(passed), repr(ahead), function.__name__)
    case.assertEqual(outcome(function, **dict(zip(names, args))), first, (function.__name__, args))
    if isinstance(first[1], list):
        again = function(*args)
        case.assertIsNot(again, first[1])
        copied = list(again)
        again.append(None)
        again.reverse()
        case.assertEqual(function(*args), copied)


def deep(levels):
    """A tuple nested so many levels deep."""
    value = ()
    for _ in range(levels - 1):
        value = (value,)
    return value


# Values that are no HEAP, LOT, ROW .. whatever they are asked for.
NOTHINGS = (
    None, True, False, 0, 1, -1, 10 ** 40, "", "new", "(0,)", [], [0], [[]], (None,), ("",), ("a", "b"), ((),),
    (((),),), (True,), (False,), (0, False), (0, True), ([],), ([0],), deep(100), [deep(99)], (-1,), (0, 0), (1, 0),
    ((0, 1), (0, 1), (0, 1), (0, 1)), ("new",), ("tie", 0), (0,) * 5000, tuple([None] * 5000), (1, [], ()),
    (1, (), []), (True, (), ()), (0, (), ()), (-3, (), ()), ("1", (), ()), (1, None, ()), (1, (), None), (1, ()),
    (1, (), (), ()), (1, ((0, (0,)),), (True,)), (2, ((0, (False,)),), ()), (2, ((True, ()),), ()),
)


def spoilt(value):
    """Many values each unlike value, of which none is of its kind: of each place in it one after the other."""
    if isinstance(value, tuple):
        yield list(value)
        for at, inner in enumerate(value):
            for other in spoilt(inner):
                yield value[:at] + (other,) + value[at + 1:]
    elif value is None:
        yield from (False, True, "", -1, (None,), [None], [])
    elif isinstance(value, int):
        yield from (True, False, None, str(value), (value,), [value], -1 - value, deep(50))
    else:
        yield from (None, True, 0, value + " ", value.upper() + "S", (value,), [value], "")


def check_things(case, asks, goods):
    """Checks that asks, a function of a thing, is True for each of goods and False for all that is near by."""
    for good in goods:
        case.assertIs(asks(good), True, good)
        for bad in spoilt(good):
            case.assertIs(asks(bad), False, bad)
    for bad in NOTHINGS:
        if not any(repr(bad) == repr(good) for good in goods):
            case.assertIs(asks(bad), False, bad)
