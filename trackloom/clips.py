"""Clips: stretches of sounds, read forward or back, that rise and fall."""

from trackloom.checking import are_integers, check_number, is_ascending, is_integer, is_name, is_row
from trackloom.errors import InvalidClip, InvalidPool, InvalidSamples, Undefined

LATEST = 20000
LONGEST = 2000
FARTHEST = 100000
DONE = 4000
LOWEST = -32768
HIGHEST = 32767
LARGEST = 600
MOST_SOUNDS = 12


def is_sound(value):
    """Whether any value is a sound."""
    return are_integers(value, 0, LARGEST, LOWEST, HIGHEST)


def check_sound(sound):
    """Raises InvalidSamples unless it is a sound."""
    if not is_sound(sound):
        raise InvalidSamples(sound)


def as_sample(number):
    """The number itself, or the nearer of the bounds of samples that it lies beyond."""
    if number < LOWEST:
        return LOWEST
    return HIGHEST if number > HIGHEST else number


def is_pool(value):
    """Whether any value is a pool."""
    return (
        is_row(value, 0, MOST_SOUNDS)
        and all([is_row(pair, 2, 2) and is_name(pair[0]) and is_sound(pair[1]) for pair in value])
        and is_ascending([pair[0] for pair in value])
    )


def is_clip(value):
    """Whether any value is a clip (name, at, length, start, rate, gain, rise, fall)."""
    return (
        is_row(value, 8, 8)
        and is_name(value[0])
        and is_integer(value[1], 0, LATEST)
        and is_integer(value[2], 1, LONGEST)
        and is_integer(value[3], -FARTHEST, FARTHEST)
        and is_rate(value[4])
        and is_integer(value[5], -1024, 1024)
        and is_ramp(value[6])
        and is_ramp(value[7])
    )


def is_rate(value):
    """Whether any value is a rate, the pair of how far and in how many samples."""
    return is_row(value, 2, 2) and is_integer(value[0], -8, 8) and is_integer(value[1], 1, 8)


def is_ramp(value):
    """Whether any value is a rise or fall (done, whole)."""
    return are_integers(value, 2, 2, 0, DONE) and (value[1] != 0 or value[0] == 0)


def check_clip(clip):
    """Raises InvalidClip unless it is a clip."""
    if not is_clip(clip):
        raise InvalidClip(clip)


def clip_at(pool, clip, sample):
    """What the clip gives at the sample, of the sounds of the pool."""
    if not is_pool(pool):
        raise InvalidPool(pool)
    check_clip(clip)
    check_number(sample, 0, 100000)
    return clip_in(pool, clip, sample)


def clip_in(pool, clip, sample):
    """What clip_at tells, of what is known to be right."""
    row = clip_between(pool, clip, sample, sample + 1)[1]
    return row[0] if row else 0


def clip_between(pool, clip, first, last):
    """What the clip gives from the sample first up to, and without, last: where that begins, and the row of it."""
    name, at, length, start, rate, gain, rise, fall = clip
    begin = max(first - at, 0)
    end = min(last - at, length)
    sound = sound_of(pool, name)
    many = len(sound)
    places = [(start + number * rate[0]) // rate[1] for number in range(begin, end)]
    row = [sound[place] * gain // 256 if 0 <= place < many else 0 for place in places]
    risen = ramped(row, rise, begin)
    return at + begin, ramped(risen[::-1], fall, length - end)[::-1]


def sound_of(pool, name):
    """The sound of this name, () if the pool has none."""
    for other, sound in pool:
        if other == name:
            return sound
    return ()


def ramped(row, ramp, steps):
    """The row by a rise, or from its end on by a fall, that has gone on by so many steps where the row begins."""
    done, whole = ramp
    along = done + steps
    rising = [value * (along + at) // whole for at, value in enumerate(row[:max(whole - along, 0)])]
    return rising + row[len(rising):]


def split(clip, many):
    """The pair of clips that sound as the clip does, the first with the length many."""
    check_clip(clip)
    check_number(many, 1, clip[2] - 1)
    one, other = halves(clip, many)
    if other[1] > LATEST or not -FARTHEST <= other[3] <= FARTHEST:
        raise Undefined("room")
    return one, other


def halves(clip, many):
    """The clip as it is up to many, and from there on, wherever that begins and starts."""
    name, at, length, start, rate, gain, rise, fall = clip
    left = length - many
    one = (name, at, many, start, rate, gain, rise, gone_on(fall, left))
    other = (name, at + many, left, start + many * rate[0], rate, gain, gone_on(rise, many), fall)
    return one, other


def gone_on(ramp, many):
    """The rise or fall with so many more done, but no more than is let."""
    done, whole = ramp
    if whole == 0:
        return ramp
    return min(done + many, DONE), whole


def merged(one, other):
    """The clip that split gives as these two."""
    check_clip(one)
    check_clip(other)
    length = one[2] + other[2]
    whole = one[:2] + (length,) + one[3:7] + (other[7],)
    if length > LONGEST or halves(whole, one[2]) != (one, other):
        raise Undefined("whole")
    return whole


def slid(clip, many):
    """The clip that begins by many later."""
    check_clip(clip)
    check_number(many, -LATEST, LATEST)
    at = clip[1] + many
    if not 0 <= at <= LATEST:
        raise Undefined("room")
    return clip[:1] + (at,) + clip[2:]
