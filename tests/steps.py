"""Steps that several tests need, and values that are no stamps and no steps."""

from tests.helpers import ODD, warped
from tests.meaning import BARS, LEVEL, PACES, POOL
from trackloom.projects import Project
from trackloom.tones import even_tuning

TONE = (("saw",), even_tuning(), (0, 0, 256, 0), 2)
LEAD = ("lead", ("tone", TONE, ()), (), (), LEVEL, 0)
BEAT = ("beat", ("clips", ()), (), (("lead", 256, "now"),), LEVEL, 0)
ONE = Project(PACES, BARS, POOL, (BEAT, LEAD))
# Deeds of which each stands for itself.
NOTES = tuple(("note", "lead", (tick, 1, 60, 100)) for tick in range(30))
A1, A2, A3, A4, A5 = ((clock, "ann", 0) for clock in range(1, 6))
B1, B2, B3 = ((clock, "bob", 0) for clock in range(1, 4))

NO_STAMPS = ODD + (
    (), (1, "ann"), (1, "ann", 0, 0), (0, "ann", 0), (1000000, "ann", 0), (-1, "ann", 0), (1, "", 0), (1, "Ann", 0), (1, "abcdefghi", 0), (1, None, 0),
    (1, "ann", -1), (1, "ann", 100), (True, "ann", 0), (1, "ann", False), ("1", "ann", 0), (1, "ann", "0"), [1, "ann", 0], (1, ["ann"], 0), ((1, "ann", 0),),
    ("ann", 1, 0), 1, "ann",
) + tuple(warped((1, "ann", 0)))
FINE = ((A1, NOTES[0]), (A2, ("undo", A1)), (B2, ("redo", (999999, "x", 99))), (A3, ("silent", "lead", 1)))


def no_steps():
    """Values that are no tuples of steps."""
    yield from ODD
    yield from (0, None, "", list(FINE), FINE[0], (FINE,), [FINE[0]], (list(FINE[0]),), (FINE[0] + (0,),), (FINE[0][:1],), ((A1, None),), ((A1, "undo"),))
    yield from (((A1, ("undo",)),), ((A1, ("undo", A1, A1)),), ((A1, ("undo", 5)),), ((A1, ("undone", A1)),), ((A1, ["undo", A1]),), ((A1, NOTES[0] + (0,)),))
    yield from (((A1, ("note", "lead")),), ((A1, ("silent", "lead", True)),), ((A1, ("undo", [1, "ann", 0])),), ((A1, (None, A1)),), ((NOTES[0], A1),))
    for stamp in NO_STAMPS:
        yield ((stamp, NOTES[0]),)
        yield ((A5, ("undo", stamp)),)
        yield ((A5, ("redo", stamp)),)
