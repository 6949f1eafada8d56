"""What several tests need: values of all kinds, and what every call has to keep to."""

import inspect
import sys

from trackloom.barring import Metre
from trackloom.errors import StudioError, Undefined
from trackloom.pacing import Tempo
from trackloom.projects import Project
from trackloom.rendering import Renderer


def nested(kind, depth):
    """A list or tuple that is nested so deep."""
    value = kind()
    for _ in range(depth - 1):
        value = kind((value,))
    return value


TEMPO = Tempo(((0, 100, "flat"),))
METRE = Metre(((0, 4),))
PROJECT = Project(TEMPO.paces, METRE.bars, (), (("a", None, (), (), ((0, 256),), 0),))

# No value here is a number, or a whole thing of any kind that the document names.
ODD = (
    True, False, None, "", "1", "flat", "ramp", "saw", [], [0], [[0, 1]], (None,), (True,), ((),),
    (0, 0, 0, 0, 0, 0, 0, 0, 0), [1, 2, 3, 4], TEMPO, METRE, (TEMPO,), nested(tuple, 60), nested(list, 60),
    tuple(range(29999)), "x" * 4000, PROJECT, Renderer(PROJECT), [PROJECT],
)


def is_plain(value):
    """Whether it is made of plain tuples, strings, integers that are no bools, and None alone."""
    if type(value) is tuple:
        return all(is_plain(member) for member in value)
    return type(value) in (int, str, type(None))


def shown(values):
    """A text that is another one, if one of the values has changed."""
    return repr([sorted(vars(value).items()) if isinstance(value, Project) else value for value in values])


def told(case, function, *arguments):
    """What the function returns, by position, again, and by name; all that has to hold of each call."""
    kept = shown(arguments)
    result = function(*arguments)
    names = list(inspect.signature(function).parameters)
    case.assertEqual(function(*arguments), result)
    case.assertEqual(function(**dict(zip(names, arguments, strict=True))), result)
    case.assertEqual(shown(arguments), kept)
    if type(result) is not bool:
        case.assertTrue(is_plain(result), result)
    return result


def refused(case, error, argument, function, *arguments):
    """Sees that the call raises just this error, with this argument itself kept."""
    kept = shown(arguments)
    with case.assertRaises(StudioError, msg=f"{function.__name__}{kept[:200]}") as caught:
        function(*arguments)
    case.assertIs(type(caught.exception), error, f"{function.__name__}{kept[:200]}")
    case.assertTrue(caught.exception.value is argument, f"{function.__name__}{kept[:200]}")
    case.assertEqual(shown(arguments), kept)


def undefined(case, what, function, *arguments):
    """Sees that the call raises Undefined with this word."""
    with case.assertRaises(StudioError, msg=f"{function.__name__}{arguments}") as caught:
        function(*arguments)
    case.assertIs(type(caught.exception), Undefined, f"{function.__name__}{arguments}")
    case.assertEqual(caught.exception.what, what)


def refuses_numbers(case, error, function, arguments, at, low, high):
    """Sees that the argument numbered at is refused just where it is no integer from low to high."""
    for odd in ODD + (low - 1, high + 1, low - 1000, high + 1000, -10 ** 11, 10 ** 12 - 1, (low,), [low], str(low)):
        changed = arguments[:at] + (odd,) + arguments[at + 1:]
        refused(case, error, odd, function, *changed)
    for fine in (low, high):
        changed = arguments[:at] + (fine,) + arguments[at + 1:]
        try:
            function(*changed)
        except Undefined:
            pass


def warped(value):
    """Values that differ from this one at a single place within, by its kind: none is what it was."""
    yield from (None, True, [value], TEMPO)
    if isinstance(value, str):
        yield from (0, (value,), value.upper() + "?")
    if isinstance(value, int):
        yield from (str(value), (value,), value == 1, 10 ** 11, -10 ** 11)
    if isinstance(value, tuple):
        yield from (list(value), "", 0, value + (None,), (value,))
        for at, member in enumerate(value):
            for other in warped(member):
                yield value[:at] + (other,) + value[at + 1:]


NO_SOUNDS = tuple(value for value in ODD if value != (0,) * 9) + (
    0, [], [1], (1, True), (1, None), (1, "1"), (1, (1,)), (32768,), (-32769,), (0,) * 601, (PROJECT,), "12",
) + tuple(warped((1, -2)))


def some_sound(source, many):
    """A sound of so many samples: still, wandering, at both bounds, or free."""
    kind = source.randrange(5)
    if kind == 0:
        return (source.choice((0, 5, -32768, 32767)),) * many
    if kind == 1:
        return tuple(source.choice((-32768, 32767)) for _ in range(many))
    if kind == 2:
        return tuple(source.randrange(-32768, 32768) for _ in range(many))
    step = source.choice((1, 40, 3000))
    value = source.randrange(-9000, 9000)
    samples = []
    for _ in range(many):
        value = max(-32768, min(32767, value + source.randint(-step, step + source.randrange(3))))
        samples.append(value)
    return tuple(samples)


def calls_of(function, *arguments):
    """How many functions, one's own and others', are called in this call."""
    many = 0

    def count(frame, event, argument):
        nonlocal many
        many += event in ("call", "c_call")

    sys.setprofile(count)
    try:
        function(*arguments)
    finally:
        sys.setprofile(None)
    return many
