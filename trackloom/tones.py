"""Tones: the samples that notes make by a wave, a tuning and a shape."""

from trackloom.checking import are_integers, check_number, is_ascending, is_integer, is_row
from trackloom.errors import InvalidTone, InvalidTuning
from trackloom.pacing import sample_of
from trackloom.parts import check_part

TURN = 65536
HALF = 32768


def is_tuning(value):
    """Whether any value is a tuning."""
    return are_integers(value, 12, 12, 8000, 32000) and is_ascending(value) and value[-1] < 2 * value[0]


def step_of(tuning, pitch):
    """By how much the phase goes on with each sample of the pitch."""
    if not is_tuning(tuning):
        raise InvalidTuning(tuning)
    check_number(pitch, 0, 127)
    return step_in(tuning, pitch)


def step_in(tuning, pitch):
    """What step_of tells, of what is known to be a tuning and a pitch."""
    return (tuning[pitch % 12] << pitch // 12) // 1024


def even_tuning():
    """The tuning whose twelve steps are as even as whole numbers let them be."""
    return (11430, 12110, 12830, 13593, 14401, 15257, 16165, 17126, 18144, 19223, 20366, 21577)


def is_wave(value):
    """Whether any value is a wave."""
    if is_row(value, 1, 1):
        return value[0] in ("saw", "square", "peak")
    if not is_row(value, 2, 2):
        return False
    if value[0] == "table":
        return are_integers(value[1], 2, 16, -32767, 32767)
    return value[0] == "noise" and is_integer(value[1], 0, 65535)


def height_at(wave, step, age):
    """The height of the wave at an age, the phase going on by step with each sample."""
    if wave[0] == "noise":
        return noise_at(wave[1], age)
    phase = step * age % TURN
    if wave[0] == "saw":
        return phase - HALF
    if wave[0] == "square":
        return 32767 if phase < HALF else -32767
    if wave[0] == "peak":
        return 2 * phase - HALF if phase < HALF else 98303 - 2 * phase
    return table_at(wave[1], phase)


def noise_at(seed, age):
    """The height of noise at an age."""
    mixture = seed * 40503 + age * 30011
    return mixture * mixture // 256 % TURN - HALF


def table_at(values, phase):
    """The height at the phase of a wave that goes through the values in one turn."""
    along = phase * len(values)
    at = along // TURN
    one = values[at]
    other = values[(at + 1) % len(values)]
    return one + (other - one) * (along % TURN) // TURN


def is_shape(value):
    """Whether any value is a shape (rise, fall, level, fade)."""
    return are_integers(value, 4, 4, 0, 2000) and value[2] <= 256


def gain_at(shape, held, age):
    """The gain of the shape at an age, of a note that is held so long."""
    if age < held:
        return gain_on(shape, age)
    fade = shape[3]
    if age < held + fade:
        return gain_on(shape, held) * (held + fade - age) // fade
    return 0


def gain_on(shape, age):
    """The gain of the shape at an age, as long as the note is held."""
    rise, fall, level, _ = shape
    if age < rise:
        return age * 256 // rise
    if age < rise + fall:
        return 256 - (256 - level) * (age - rise) // fall
    return level


def is_tone(value):
    """Whether any value is a tone (wave, tuning, shape, voices)."""
    return (
        is_row(value, 4, 4)
        and is_wave(value[0])
        and is_tuning(value[1])
        and is_shape(value[2])
        and is_integer(value[3], 1, 8)
    )


def check_tone(tone):
    """Raises InvalidTone unless it is a tone."""
    if not is_tone(tone):
        raise InvalidTone(tone)


def tone_at(tone, pitch, force, held, age):
    """The sample of the tone at an age, of a note of this pitch and force that is held so long."""
    check_tone(tone)
    check_number(pitch, 0, 127)
    check_number(force, 1, 127)
    check_number(held, 0, 1000000)
    check_number(age, 0, 1000000)
    return sample_in(tone, pitch, force, held, age)


def sample_in(tone, pitch, force, held, age):
    """What tone_at tells, of what is known to be right."""
    wave, tuning, shape, _ = tone
    height = height_at(wave, step_in(tuning, pitch), age)
    return height * gain_at(shape, held, age) // 256 * force // 128


def played(tone, part, tempo, sample):
    """The sum of what all notes of the part that sound make at the sample."""
    check_played(tone, part, sample)
    return sum_at(tone, spans_of(part, tempo), sample)


def voiced(tone, part, tempo, sample):
    """The notes of the part that sound at the sample."""
    check_played(tone, part, sample)
    return tuple([note for note, _, _ in voices_at(tone, spans_of(part, tempo), sample)])


def check_played(tone, part, sample):
    """Raises the error of the first of them that is not right."""
    check_tone(tone)
    check_part(part)
    check_number(sample, 0, 100000)


def spans_of(part, tempo):
    """The triples (note, begin, held) of all notes of the part: where each begins, and how long it is held."""
    spans = []
    for note in part:
        begin = sample_of(tempo, note[0])
        spans.append((note, begin, sample_of(tempo, note[0] + note[1]) - begin))
    return spans


def sum_at(tone, spans, sample):
    """What played tells, of the spans of the part."""
    total = 0
    for note, held, age in voices_at(tone, spans, sample):
        total = total + sample_in(tone, note[2], note[3], held, age)
    return total


def voices_at(tone, spans, sample):
    """The triples (note, held, age) of all notes that sound at the sample."""
    return alive_at(tone, spans, sample)[-tone[3]:]


def alive_at(tone, spans, sample):
    """The triples (note, held, age) of all notes that are alive at the sample."""
    fade = tone[2][3]
    return [
        (note, held, sample - begin)
        for note, begin, held in spans
        if begin <= sample < begin + held + fade
    ]
