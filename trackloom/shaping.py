"""Sounds shaped: turned, drawn, mixed, blended, scaled, and looked through for quiet rows."""

from trackloom.checking import check_number
from trackloom.clips import HIGHEST, LARGEST, as_sample, check_sound
from trackloom.errors import Undefined


def check_many(many):
    """Raises Undefined if a sound cannot have so many samples."""
    if many > LARGEST:
        raise Undefined("many")


def turned(sound):
    """The sound from its last sample to its first."""
    check_sound(sound)
    return sound[::-1]


def drawn(sound, up, down):
    """The sound with up samples for each down of its own, those between them in straight lines."""
    check_sound(sound)
    check_number(up, 1, 8)
    check_number(down, 1, 8)
    end = len(sound) * up
    check_many((end + down - 1) // down)
    # The last sample stands behind itself, too.
    ends = sound + sound[-1:]
    samples = []
    for along in range(0, end, down):
        one = ends[along // up]
        other = ends[along // up + 1]
        samples.append(one + (other - one) * (along % up) // up)
    return tuple(samples)


def mixed(one, other, at):
    """The sums of the samples of both sounds, the other beginning at at."""
    check_sound(one)
    check_sound(other)
    check_number(at, 0, LARGEST)
    many = max(len(one), at + len(other))
    check_many(many)
    sums = list(one) + [0] * (many - len(one))
    for number, sample in enumerate(other):
        sums[at + number] = as_sample(sums[at + number] + sample)
    return tuple(sums)


def blended(one, other, many):
    """One sound and then the other, the last many samples of the one going over into the first of the other."""
    check_sound(one)
    check_sound(other)
    check_number(many, 0, min(len(one), len(other)))
    check_many(len(one) + len(other) - many)
    left = len(one) - many
    between = [
        (ending * (many - number) + beginning * (number + 1)) // (many + 1)
        for number, (ending, beginning) in enumerate(zip(one[left:], other))
    ]
    return one[:left] + tuple(between) + other[many:]


def scaled(sound, top):
    """The sound made so loud that its greatest absolute value is the top."""
    check_sound(sound)
    check_number(top, 1, HIGHEST)
    most = max([0] + [abs(sample) for sample in sound])
    if most == 0:
        raise Undefined("quiet")
    return tuple([towards_zero(sample * top, most) for sample in sound])


def towards_zero(number, by):
    """The quotient, rounded towards 0."""
    return number // by if number >= 0 else -(-number // by)


def quiet(sound, top):
    """The pairs (first, last) of the longest rows of samples none of which is louder than the top."""
    check_sound(sound)
    check_number(top, 0, HIGHEST + 1)
    rows = []
    first = 0
    for number, sample in enumerate(sound):
        if abs(sample) > top:
            if first < number:
                rows.append((first, number))
            first = number + 1
    if first < len(sound):
        rows.append((first, len(sound)))
    return tuple(rows)
