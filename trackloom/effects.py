"""Effects: what they make of a row of samples, at once or in pieces."""

from trackloom.checking import are_integers, is_integer, is_row
from trackloom.errors import InvalidEffect, InvalidSamples

BOUND = 8388607

BOUNDS = {
    "gain": ((-1024, 1024),),
    "wait": ((0, 200),),
    "echo": ((1, 200), (-255, 255)),
    "smooth": ((1, 256),),
    "crush": ((1, 15),),
    "limit": ((1, 8388607), (0, 32)),
}


def held(number):
    """The number itself, or the nearer of the two bounds that it lies beyond."""
    return max(-BOUND, min(BOUND, number))


def all_held(row):
    """The row, which is not (), with each number held."""
    if max(row) > BOUND or min(row) < -BOUND:
        return [BOUND if number > BOUND else -BOUND if number < -BOUND else number for number in row]
    return row


def is_effect(value):
    """Whether any value is an effect."""
    if not is_row(value, 2, 3) or not isinstance(value[0], str):
        return False
    if value[0] == "mix":
        return len(value) == 2 and are_integers(value[1], 1, 8, -256, 256)
    bounds = BOUNDS.get(value[0], ())
    return len(value) == len(bounds) + 1 and all(
        [is_integer(member, low, high) for member, (low, high) in zip(value[1:], bounds)]
    )


def check_effect(effect):
    """Raises InvalidEffect unless it is an effect."""
    if not is_effect(effect):
        raise InvalidEffect(effect)


def check_samples(samples):
    """Raises InvalidSamples unless it is a tuple of at most 2000 samples."""
    if not are_integers(samples, 0, 2000, -BOUND, BOUND):
        raise InvalidSamples(samples)


def heard(effect, samples):
    """What the effect makes of the samples, as many."""
    check_effect(effect)
    check_samples(samples)
    return gone_on(effect, beginning(effect), samples)[1]


def delay_of(effect):
    """How many samples the effect hears ahead."""
    check_effect(effect)
    return delay_in(effect)


def delay_in(effect):
    """What delay_of tells, of what is known to be an effect."""
    return effect[2] if effect[0] == "limit" else 0


def fresh(effect):
    """The state of the effect ahead of all samples."""
    check_effect(effect)
    return beginning(effect)


def beginning(effect):
    """What fresh tells, of what is known to be an effect."""
    return (0,) * memory_of(effect)


def memory_of(effect):
    """How many samples the effect has to remember."""
    word = effect[0]
    if word in ("wait", "echo"):
        return effect[1]
    if word == "mix":
        return len(effect[1]) - 1
    if word == "limit":
        return effect[2]
    return 1 if word == "smooth" else 0


def pushed(effect, state, samples):
    """The state behind the samples, and what the effect makes of them."""
    check_effect(effect)
    check_samples(samples)
    return gone_on(effect, state, samples)


def gone_on(effect, state, samples):
    """What pushed tells, of what is known to be right.

    A state holds the last samples that the effect remembers: of what it
    made, if it goes on from that, otherwise of what it heard.
    """
    before = list(state) + list(samples)
    behind = list(state)
    lengthen(effect, before, behind)
    kept = behind if goes_on_from_itself(effect) else before
    return tuple(kept[len(samples):]), tuple(behind[len(state):])


def goes_on_from_itself(effect):
    """Whether the effect hears what it made."""
    return effect[0] in ("echo", "smooth")


def span_of(effect):
    """How far back the first and the last sample lie that a sample hangs on."""
    check_effect(effect)
    return span_in(effect)


def span_in(effect):
    """What span_of tells, of what is known to be an effect."""
    if goes_on_from_itself(effect):
        return 0, None
    many = memory_of(effect)
    return many if effect[0] == "wait" else 0, many


def lengthen(effect, before, behind):
    """Makes the row behind the effect, a list, as long as the one before it.

    Both begin with at least as many samples as the effect remembers, 0 where
    they are ahead of all samples.
    """
    if len(behind) < len(before):
        lengthen_by = LENGTHENS[effect[0]]
        lengthen_by(effect, before, behind)


def lengthen_by_gain(effect, before, behind):
    """What lengthen does by "gain"."""
    gain = effect[1]
    behind.extend(all_held([sample * gain // 256 for sample in before[len(behind):]]))


def lengthen_by_wait(effect, before, behind):
    """What lengthen does by "wait"."""
    behind.extend(before[len(behind) - effect[1]:len(before) - effect[1]])


def lengthen_by_echo(effect, before, behind):
    """What lengthen does by "echo"."""
    _, back, gain = effect
    for at in range(len(behind), len(before)):
        value = before[at] + behind[at - back] * gain // 256
        behind.append(value if -BOUND <= value <= BOUND else held(value))


def lengthen_by_smooth(effect, before, behind):
    """What lengthen does by "smooth".

    Each sample lies between what is heard and the last one, so none has to
    be held.
    """
    gain = effect[1]
    last = behind[-1]
    for sample in before[len(behind):]:
        last = last + (sample - last) * gain // 256
        behind.append(last)


def lengthen_by_mix(effect, before, behind):
    """What lengthen does by "mix"."""
    taps = effect[1]
    at = len(behind)
    first = taps[0]
    sums = [sample * first for sample in before[at:]]
    for back in range(1, len(taps)):
        tap = taps[back]
        sums = [total + sample * tap for total, sample in zip(sums, before[at - back:])]
    behind.extend(all_held([total // 256 for total in sums]))


def lengthen_by_crush(effect, before, behind):
    """What lengthen does by "crush"."""
    bits = effect[1]
    behind.extend(all_held([sample >> bits << bits for sample in before[len(behind):]]))


def lengthen_by_limit(effect, before, behind):
    """What lengthen does by "limit".

    The greater a sample beyond the top is, the less is the gain that it asks
    for, so the greatest one near by tells the gain.
    """
    _, top, ahead = effect
    near = before[len(behind) - ahead:]
    if max(near) <= top and min(near) >= -top:
        behind.extend(near[:len(near) - ahead])
    else:
        peaks = greatest([abs(sample) for sample in near], ahead + 1)
        behind.extend([
            sample if peak <= top else sample * (top * 256 // peak) // 256
            for sample, peak in zip(near, peaks)
        ])


def greatest(row, many):
    """The greatest one of each so many neighbours in the row.

    That of twice as many is the greater one of two, so few rounds will do.
    """
    reach = 1
    while reach < many:
        step = min(reach, many - reach)
        row = [one if one > other else other for one, other in zip(row, row[step:])]
        reach = reach + step
    return row


LENGTHENS = {
    "gain": lengthen_by_gain,
    "wait": lengthen_by_wait,
    "echo": lengthen_by_echo,
    "smooth": lengthen_by_smooth,
    "mix": lengthen_by_mix,
    "crush": lengthen_by_crush,
    "limit": lengthen_by_limit,
}


def made(effect, before, behind, at):
    """The sample numbered at of the row behind the effect, known up to there, by the one before it.

    It is what lengthen makes, told faster where only one sample is known.
    """
    make = MAKES[effect[0]]
    value = make(effect, before, behind, at)
    return value if -BOUND <= value <= BOUND else held(value)


def made_by_gain(effect, before, behind, at):
    """What "gain" makes, not yet held."""
    return before[at] * effect[1] // 256


def made_by_wait(effect, before, behind, at):
    """What "wait" makes."""
    return before[at - effect[1]]


def made_by_echo(effect, before, behind, at):
    """What "echo" makes, not yet held."""
    return before[at] + behind[at - effect[1]] * effect[2] // 256


def made_by_smooth(effect, before, behind, at):
    """What "smooth" makes."""
    last = behind[at - 1]
    return last + (before[at] - last) * effect[1] // 256


def made_by_mix(effect, before, behind, at):
    """What "mix" makes, not yet held."""
    total = 0
    for back, tap in enumerate(effect[1]):
        total = total + tap * before[at - back]
    return total // 256


def made_by_crush(effect, before, behind, at):
    """What "crush" makes, not yet held."""
    return before[at] >> effect[1] << effect[1]


def made_by_limit(effect, before, behind, at):
    """What "limit" makes."""
    _, top, ahead = effect
    near = before[at - ahead:at + 1]
    peak = max(max(near), -min(near))
    return near[0] if peak <= top else near[0] * (top * 256 // peak) // 256


MAKES = {
    "gain": made_by_gain,
    "wait": made_by_wait,
    "echo": made_by_echo,
    "smooth": made_by_smooth,
    "mix": made_by_mix,
    "crush": made_by_crush,
    "limit": made_by_limit,
}
