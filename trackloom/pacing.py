"""Paces: how many samples each tick lasts, and which tick a sample lies in."""

from trackloom.checking import check_number, is_ascending, is_integer, is_row
from trackloom.errors import InvalidPaces


class Tempo:
    """How fast ticks go by; equal to others with equal paces.

    The attribute starts tells at which sample each tick begins, up to the
    tick of the last triple, so that no call has to sum the ticks anew.
    """

    def __init__(self, paces):
        if not are_paces(paces):
            raise InvalidPaces(paces)
        self.paces = paces
        self.starts = starts_of(paces)

    def __eq__(self, other):
        return isinstance(other, Tempo) and self.paces == other.paces


def are_paces(value):
    """Whether any value is paces."""
    return (
        is_row(value, 1, 40)
        and all([is_pace(triple) for triple in value])
        and is_ascending([triple[0] for triple in value])
        and value[0][0] == 0
        and value[-1][2] == "flat"
    )


def is_pace(value):
    """Whether any value is a triple (tick, pace, word) of paces."""
    return (
        is_row(value, 3, 3)
        and is_integer(value[0], 0, 2000)
        and is_integer(value[1], 1, 400)
        and value[2] in ("flat", "ramp")
    )


def starts_of(paces):
    """At which sample each tick up to that of the last triple begins."""
    starts = [0]
    for one, other in zip(paces, paces[1:]):
        for tick in range(one[0], other[0]):
            starts.append(starts[-1] + pace_between(one, other, tick))
    return tuple(starts)


def pace_between(one, other, tick):
    """How many samples a tick from that of one on lasts, ahead of that of other."""
    if one[2] == "flat":
        return one[1]
    return one[1] + (other[1] - one[1]) * (tick - one[0]) // (other[0] - one[0])


def pace_at(tempo, tick):
    """How many samples the tick lasts."""
    check_number(tick, 0, 10000)
    return pace_in(tempo, tick)


def pace_in(tempo, tick):
    """What pace_at tells, of any tick."""
    if tick < len(tempo.starts) - 1:
        return tempo.starts[tick + 1] - tempo.starts[tick]
    return last_pace(tempo)


def last_pace(tempo):
    """How many samples each tick from that of the last triple on lasts."""
    return tempo.paces[-1][1]


def sample_of(tempo, tick):
    """How many samples all ticks ahead of this one last."""
    check_number(tick, 0, 10000)
    return start_of(tempo, tick)


def start_of(tempo, tick):
    """What sample_of tells, of what is known to be a tick."""
    last = len(tempo.starts) - 1
    if tick <= last:
        return tempo.starts[tick]
    return tempo.starts[last] + (tick - last) * last_pace(tempo)


def tick_of(tempo, sample):
    """The tick in which the sample lies, and how many samples of it are ahead."""
    check_number(sample, 0, 10000000)
    tick = last_begun(tempo.starts, sample)
    rest = sample - tempo.starts[tick]
    if tick < len(tempo.starts) - 1:
        return tick, rest
    pace = last_pace(tempo)
    return tick + rest // pace, rest % pace


def last_begun(starts, sample):
    """The last of the ticks that begin at the sample or ahead of it."""
    low = 0
    high = len(starts) - 1
    while low < high:
        middle = (low + high + 1) // 2
        if starts[middle] <= sample:
            low = middle
        else:
            high = middle - 1
    return low


def ticks_between(tempo, first, last):
    """The ticks of the samples from first up to, and without, last."""
    tick, ahead = tick_of(tempo, first)
    ticks = []
    while len(ticks) < last - first:
        ticks.extend([tick] * (pace_in(tempo, tick) - ahead))
        tick = tick + 1
        ahead = 0
    return ticks[:last - first]
