"""Effects: what they make of a row of samples, at once or in pieces."""

from trackloom.checking import are_integers, is_integer, is_row
from trackloom.errors import InvalidEffect, InvalidSamples

BOUND = 8388607

BOUNDS = {
    "gain": ((-1024, 1024),),
    "wait": ((0, 200),),
    "echo": ((1, 200), (-255, 255)),
    "smooth": ((1, 256),),
    "crush": ((1, 15),),
    "limit": ((1, 8388607), (0, 32)),
}


def held(number):
    """The number itself, or the nearer of the two bounds that it lies beyond."""
    return max(-BOUND, min(BOUND, number))


def is_effect(value):
    """Whether any value is an effect."""
    if not is_row(value, 2, 3) or not isinstance(value[0], str):
        return False
    if value[0] == "mix":
        return len(value) == 2 and are_integers(value[1], 1, 8, -256, 256)
    bounds = BOUNDS.get(value[0], ())
    return len(value) == len(bounds) + 1 and all(
        [is_integer(member, low, high) for member, (low, high) in zip(value[1:], bounds)]
    )


def check_effect(effect):
    """Raises InvalidEffect unless it is an effect."""
    if not is_effect(effect):
        raise InvalidEffect(effect)


def check_samples(samples):
    """Raises InvalidSamples unless it is a tuple of at most 2000 samples."""
    if not are_integers(samples, 0, 2000, -BOUND, BOUND):
        raise InvalidSamples(samples)


def heard(effect, samples):
    """What the effect makes of the samples, as many."""
    check_effect(effect)
    check_samples(samples)
    return gone_on(effect, beginning(effect), samples)[1]


def delay_of(effect):
    """How many samples the effect hears ahead."""
    check_effect(effect)
    return effect[2] if effect[0] == "limit" else 0


def fresh(effect):
    """The state of the effect ahead of all samples."""
    check_effect(effect)
    return beginning(effect)


def beginning(effect):
    """What fresh tells, of what is known to be an effect."""
    return (0,) * memory_of(effect)


def memory_of(effect):
    """How many samples the effect has to remember."""
    word = effect[0]
    if word in ("wait", "echo"):
        return effect[1]
    if word == "mix":
        return len(effect[1]) - 1
    if word == "limit":
        return effect[2]
    return 1 if word == "smooth" else 0


def pushed(effect, state, samples):
    """The state behind the samples, and what the effect makes of them."""
    check_effect(effect)
    check_samples(samples)
    return gone_on(effect, state, samples)


def gone_on(effect, state, samples):
    """What pushed tells, of what is known to be right.

    A state holds the last samples that the effect remembers: of what it
    made, if it goes on from that, otherwise of what it heard.
    """
    many = len(state)
    before = list(state) + list(samples)
    behind = list(state)
    for at in range(many, len(before)):
        behind.append(made(effect, before, behind, at))
    kept = behind if goes_on_from_itself(effect) else before
    return tuple(kept[len(samples):]), tuple(behind[many:])


def goes_on_from_itself(effect):
    """Whether the effect hears what it made."""
    return effect[0] in ("echo", "smooth")


def span_of(effect):
    """How far back the first and the last sample lie that a sample hangs on."""
    check_effect(effect)
    if goes_on_from_itself(effect):
        return 0, None
    many = memory_of(effect)
    return many if effect[0] == "wait" else 0, many


def made(effect, before, behind, at):
    """The sample numbered at that the effect makes.

    It is made of the row before it, known up to at, and of the row behind
    it, known up to just ahead of at; ahead of both rows there is only 0.
    """
    make = MAKES[effect[0]]
    return held(make(effect, before, behind, at))


def past(row, number):
    """The sample with this number, 0 ahead of the row."""
    return row[number] if number >= 0 else 0


def made_by_gain(effect, before, behind, at):
    """What "gain" makes, not yet held."""
    return before[at] * effect[1] // 256


def made_by_wait(effect, before, behind, at):
    """What "wait" makes."""
    return past(before, at - effect[1])


def made_by_echo(effect, before, behind, at):
    """What "echo" makes, not yet held."""
    return before[at] + past(behind, at - effect[1]) * effect[2] // 256


def made_by_smooth(effect, before, behind, at):
    """What "smooth" makes, not yet held."""
    last = past(behind, at - 1)
    return last + (before[at] - last) * effect[1] // 256


def made_by_mix(effect, before, behind, at):
    """What "mix" makes, not yet held."""
    total = 0
    for back, tap in enumerate(effect[1]):
        total = total + tap * past(before, at - back)
    return total // 256


def made_by_crush(effect, before, behind, at):
    """What "crush" makes, not yet held."""
    return before[at] >> effect[1] << effect[1]


def made_by_limit(effect, before, behind, at):
    """What "limit" makes.

    The greater a sample beyond the top is, the less is the gain that it
    asks for, so the greatest one near by tells the gain.
    """
    _, top, ahead = effect
    near = before[max(at - ahead, 0):at + 1]
    peak = max(max(near), -min(near))
    gain = top * 256 // peak if peak > top else 256
    return past(before, at - ahead) * gain // 256


MAKES = {
    "gain": made_by_gain,
    "wait": made_by_wait,
    "echo": made_by_echo,
    "smooth": made_by_smooth,
    "mix": made_by_mix,
    "crush": made_by_crush,
    "limit": made_by_limit,
}
