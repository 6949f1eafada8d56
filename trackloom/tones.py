"""Tones: the samples that notes make by a wave, a tuning and a shape."""

from trackloom.checking import are_integers, check_number, is_ascending, is_integer, is_row
from trackloom.errors import InvalidTone, InvalidTuning
from trackloom.pacing import start_of
from trackloom.parts import check_part

TURN = 65536
HALF = 32768


def is_tuning(value):
    """Whether any value is a tuning."""
    return are_integers(value, 12, 12, 8000, 32000) and is_ascending(value) and value[-1] < 2 * value[0]


def step_of(tuning, pitch):
    """By how much the phase goes on with each sample of the pitch."""
    if not is_tuning(tuning):
        raise InvalidTuning(tuning)
    check_number(pitch, 0, 127)
    return step_in(tuning, pitch)


def step_in(tuning, pitch):
    """What step_of tells, of what is known to be a tuning and a pitch."""
    return (tuning[pitch % 12] << pitch // 12) // 1024


def even_tuning():
    """The tuning whose twelve steps are as even as whole numbers let them be."""
    return (11430, 12110, 12830, 13593, 14401, 15257, 16165, 17126, 18144, 19223, 20366, 21577)


def is_wave(value):
    """Whether any value is a wave."""
    if is_row(value, 1, 1):
        return value[0] in ("saw", "square", "peak")
    if not is_row(value, 2, 2):
        return False
    if value[0] == "table":
        return are_integers(value[1], 2, 16, -32767, 32767)
    return value[0] == "noise" and is_integer(value[1], 0, 65535)


def heights_between(wave, step, first, last):
    """The heights of the wave from the age first up to, and without, last, its phase going on by step with each."""
    if wave[0] == "noise":
        return noise_between(wave[1], first, last)
    phases = [step * age % TURN for age in range(first, last)]
    if wave[0] == "saw":
        return [phase - HALF for phase in phases]
    if wave[0] == "square":
        return [32767 if phase < HALF else -32767 for phase in phases]
    if wave[0] == "peak":
        return [2 * phase - HALF if phase < HALF else 98303 - 2 * phase for phase in phases]
    return table_along(wave[1], phases)


def noise_between(seed, first, last):
    """The heights of noise from the age first up to, and without, last."""
    mixtures = [seed * 40503 + age * 30011 for age in range(first, last)]
    return [mixture * mixture // 256 % TURN - HALF for mixture in mixtures]


def table_along(values, phases):
    """The heights at the phases of a wave that goes through the values in one turn."""
    many = len(values)
    ways = [other - one for one, other in zip(values, values[1:] + values[:1])]
    places = [phase * many for phase in phases]
    return [values[place // TURN] + ways[place // TURN] * (place % TURN) // TURN for place in places]


def is_shape(value):
    """Whether any value is a shape (rise, fall, level, fade)."""
    return are_integers(value, 4, 4, 0, 2000) and value[2] <= 256


def gains_between(shape, held, first, last):
    """The gains of the shape from the age first up to, and without, last, of a note that is held so long."""
    if last <= held:
        return gains_on(shape, first, last)
    gains = gains_on(shape, first, held) if first < held else []
    fade = shape[3]
    if first < held + fade:
        top = gains_on(shape, held, held + 1)[0]
        gains.extend([
            top * (held + fade - age) // fade
            for age in range(max(first, held), min(last, held + fade))
        ])
    return gains + [0] * (last - first - len(gains))


def gains_on(shape, first, last):
    """The gains of the shape between these ages, as long as the note is held."""
    rise, fall, level, _ = shape
    gains = []
    if first < rise:
        gains = [age * 256 // rise for age in range(first, min(last, rise))]
    if first < rise + fall and last > rise:
        gains.extend([
            256 - (256 - level) * (age - rise) // fall
            for age in range(max(first, rise), min(last, rise + fall))
        ])
    return gains + [level] * (last - first - len(gains))


def is_tone(value):
    """Whether any value is a tone (wave, tuning, shape, voices)."""
    return (
        is_row(value, 4, 4)
        and is_wave(value[0])
        and is_tuning(value[1])
        and is_shape(value[2])
        and is_integer(value[3], 1, 8)
    )


def check_tone(tone):
    """Raises InvalidTone unless it is a tone."""
    if not is_tone(tone):
        raise InvalidTone(tone)


def tone_at(tone, pitch, force, held, age):
    """The sample of the tone at an age, of a note of this pitch and force that is held so long."""
    check_tone(tone)
    check_number(pitch, 0, 127)
    check_number(force, 1, 127)
    check_number(held, 0, 1000000)
    check_number(age, 0, 1000000)
    return samples_between(tone, (0, 1, pitch, force), held, age, age + 1)[0]


def samples_between(tone, note, held, first, last):
    """The samples of the tone from the age first up to, and without, last, of a note that is held so long."""
    wave, tuning, shape, _ = tone
    _, _, pitch, force = note
    heights = heights_between(wave, step_in(tuning, pitch), first, last)
    gains = gains_between(shape, held, first, last)
    return [height * gain // 256 * force // 128 for height, gain in zip(heights, gains)]


def played(tone, part, tempo, sample):
    """The sum of what all notes of the part that sound make at the sample."""
    check_played(tone, part, sample)
    return sums_between(tone, spans_of(part, tempo), sample, sample + 1)[0]


def voiced(tone, part, tempo, sample):
    """The notes of the part that sound at the sample."""
    check_played(tone, part, sample)
    return tuple([note for note, _, _ in voices_at(tone, spans_of(part, tempo), sample)])


def check_played(tone, part, sample):
    """Raises the error of the first of them that is not right."""
    check_tone(tone)
    check_part(part)
    check_number(sample, 0, 100000)


def spans_of(part, tempo):
    """The triples (note, begin, held) of all notes of the part: where each begins, and how long it is held."""
    spans = []
    for note in part:
        begin = start_of(tempo, note[0])
        spans.append((note, begin, start_of(tempo, note[0] + note[1]) - begin))
    return spans


def sums_between(tone, spans, first, last):
    """What played tells from the sample first up to, and without, last, of the spans of the part.

    Wherever no note begins or ends the same ones sound on, so their samples
    are made in whole rows.
    """
    marks = marks_between(tone, spans, first, last)
    sums = []
    for one, other in zip(marks, marks[1:]):
        row = [0] * (other - one)
        for note, held, age in voices_at(tone, spans, one):
            more = samples_between(tone, note, held, age, age + other - one)
            row = [total + sample for total, sample in zip(row, more)]
        sums.extend(row)
    return sums


def marks_between(tone, spans, first, last):
    """The samples first and last, and those between them at which notes begin or are no longer alive."""
    if last - first < 2:
        return [first, last]
    fade = tone[2][3]
    begins = [begin for _, begin, _ in spans if first < begin < last]
    ends = [begin + held + fade for _, begin, held in spans if first < begin + held + fade < last]
    return sorted(set([first, last] + begins + ends))


def voices_at(tone, spans, sample):
    """The triples (note, held, age) of all notes that sound at the sample."""
    return alive_at(tone, spans, sample)[-tone[3]:]


def alive_at(tone, spans, sample):
    """The triples (note, held, age) of all notes that are alive at the sample."""
    fade = tone[2][3]
    return [
        (note, held, sample - begin)
        for note, begin, held in spans
        if begin <= sample < begin + held + fade
    ]
