"""Stamps, steps, and what undos and redos make of them."""

from trackloom.checking import is_integer, is_name, is_row
from trackloom.deeds import is_deed

TURNS = ("undo", "redo")
MOST_STEPS = 240
LAST_LIFE = 99


def is_stamp(value):
    """Whether any value is a stamp (clock, person, life)."""
    return (
        is_row(value, 3, 3)
        and is_integer(value[0], 1, 999999)
        and is_name(value[1])
        and is_integer(value[2], 0, LAST_LIFE)
    )


def is_step(value):
    """Whether any value is a step (stamp, deed)."""
    return is_row(value, 2, 2) and is_stamp(value[0]) and (is_turn(value[1]) or is_deed(value[1]))


def is_turn(value):
    """Whether any value is an undo or redo of a stamp."""
    return is_row(value, 2, 2) and value[0] in TURNS and is_stamp(value[1])


def are_steps(value):
    """Whether any value is a tuple of at most 240 steps."""
    return is_row(value, 0, MOST_STEPS) and all([is_step(step) for step in value])


def gathered(known, steps):
    """The deeds of the steps by their stamps, beside those of known, a dict; None if one stamp has two unlike ones."""
    deeds = {stamp: known[stamp] for stamp in known}
    for stamp, deed in steps:
        if deeds.setdefault(stamp, deed) != deed:
            return None
    return deeds


def sorted_steps(deeds):
    """The steps of the deeds, a dict by their stamps, ascending by these."""
    return tuple([(stamp, deeds[stamp]) for stamp in sorted(deeds)])


def undone(steps):
    """The stamps of the ascending steps that are off, in a dict that has True for each of them.

    Of the undos and redos that aim at a step the last one tells.
    """
    deeds = {stamp: deed for stamp, deed in steps}
    off = {}
    for stamp, deed in steps:
        if deed[0] in TURNS and is_aimed(stamp, deed[1], deeds):
            off[deed[1]] = deed[0] == "undo"
    return {stamp: True for stamp in off if off[stamp]}


def is_aimed(stamp, inner, deeds):
    """Whether an undo or redo with this stamp and inner stamp aims at one of the deeds, a dict by their stamps."""
    return (
        inner in deeds
        and inner[1] == stamp[1]
        and inner[0] < stamp[0]
        and deeds[inner][0] not in TURNS
    )
