"""Bars: which bar and beat a tick lies in, and which tick a place is."""

from trackloom.checking import check_number, is_ascending, is_integer, is_row
from trackloom.errors import InvalidBars, InvalidPlace

BEAT = 24


class Metre:
    """How many beats the bars have; equal to others with equal bars.

    The attribute starts tells at which tick the bar of each pair begins, so
    that no call has to sum the bars anew.
    """

    def __init__(self, bars):
        if not are_bars(bars):
            raise InvalidBars(bars)
        self.bars = bars
        self.starts = starts_of(bars)

    def __eq__(self, other):
        return isinstance(other, Metre) and self.bars == other.bars


def are_bars(value):
    """Whether any value is bars."""
    return (
        is_row(value, 1, 40)
        and all([is_change(pair) for pair in value])
        and is_ascending([pair[0] for pair in value])
        and value[0][0] == 0
    )


def is_change(value):
    """Whether any value is a pair (bar, beats) of bars."""
    return is_row(value, 2, 2) and is_integer(value[0], 0, 1000) and is_integer(value[1], 1, 15)


def starts_of(bars):
    """At which tick the bar of each pair begins."""
    starts = [0]
    for one, other in zip(bars, bars[1:]):
        starts.append(starts[-1] + (other[0] - one[0]) * one[1] * BEAT)
    return tuple(starts)


def place_of(metre, tick):
    """The bar of the tick, the beat in this bar and the tick in this beat."""
    check_number(tick, 0, 10000)
    at = len([start for start in metre.starts if start <= tick]) - 1
    bar, beats = metre.bars[at]
    behind = tick - metre.starts[at]
    whole = behind // BEAT
    return bar + whole // beats, whole % beats, behind % BEAT


def tick_at(metre, place):
    """The tick of the place."""
    if not is_place(metre, place):
        raise InvalidPlace(place)
    bar, beat, rest = place
    at = change_of(metre, bar)
    first, beats = metre.bars[at]
    return metre.starts[at] + ((bar - first) * beats + beat) * BEAT + rest


def is_place(metre, value):
    """Whether any value is a place, with a bar up to 2000."""
    return (
        is_row(value, 3, 3)
        and is_integer(value[0], 0, 2000)
        and is_integer(value[1], 0, metre.bars[change_of(metre, value[0])][1] - 1)
        and is_integer(value[2], 0, BEAT - 1)
    )


def change_of(metre, bar):
    """The number of the pair that tells how many beats the bar has."""
    return len([first for first, _ in metre.bars if first <= bar]) - 1
