"""[10] to [14] Tones."""

import random
import unittest
from fractions import Fraction
from math import floor

from tests.helpers import METRE, ODD, TEMPO, nested, refused, refuses_numbers, told, warped
from trackloom.errors import InvalidNumber, InvalidPart, InvalidTone, InvalidTuning
from trackloom.pacing import Tempo, pace_at
from trackloom.tones import even_tuning, is_tone, played, step_of, tone_at, voiced

EVEN = (11430, 12110, 12830, 13593, 14401, 15257, 16165, 17126, 18144, 19223, 20366, 21577)
LOWEST = tuple(8000 + k for k in range(12))
HIGHEST = tuple(31989 + k for k in range(12))
WIDEST = (16001,) + tuple(16002 + k for k in range(10)) + (32000,)
# Its member numbered 0 is 32 times 512, so pitch 0 turns by 16 and pitch 127 is far up.
ROUND = (16384,) + tuple(16385 + k for k in range(11))

SAW, SQUARE, PEAK = ("saw",), ("square",), ("peak",)
TWO = ("table", (-32767, 32767))
SIXTEEN = ("table", tuple(k * 9973 % 65535 - 32767 for k in range(16)))
THREE = ("table", (5, 2, -7))
NOISES = (("noise", 0), ("noise", 1), ("noise", 65535))
WAVES = (SAW, SQUARE, PEAK, TWO, SIXTEEN, THREE) + NOISES
SHAPES = (
    (0, 0, 256, 0), (0, 0, 0, 0), (10, 0, 256, 0), (0, 10, 0, 5), (7, 9, 100, 11), (2000, 2000, 256, 2000),
    (3, 4, 0, 3), (5, 5, 256, 1), (1, 1, 77, 0),
)
FLAT_SHAPE = (0, 0, 256, 0)
NO_TUNINGS = (
    (), EVEN[:11], EVEN + (21578,), list(EVEN), (7999,) + LOWEST[1:], EVEN[:11] + (22860,), EVEN[:11] + (22861,),
    EVEN[:5] + (EVEN[4],) + EVEN[6:], EVEN[::-1], (8000,) * 12, HIGHEST[:11] + (32001,), 0,
    (16000,) + tuple(16001 + k for k in range(10)) + (32000,), EVEN[:3] + (True,) + EVEN[4:],
)


def quotient(number, by):
    """Rounded down, over fractions."""
    return floor(Fraction(number, by))


def expected_height(wave, phase, age):
    """The height as the document tells it."""
    if wave[0] == "saw":
        return phase - 32768
    if wave[0] == "square":
        return 32767 if phase < 32768 else -32767
    if wave[0] == "peak":
        return 2 * phase - 32768 if phase < 32768 else 98303 - 2 * phase
    if wave[0] == "table":
        values = wave[1]
        place = Fraction(phase * len(values), 65536)
        one, other = (values + values)[floor(place):floor(place) + 2]
        return one + floor((other - one) * (place - floor(place)))
    n = wave[1] * 40503 + age * 30011
    return quotient(n * n, 256) % 65536 - 32768


def expected_gain(shape, held, age):
    """The gain as the document tells it."""
    rise, fall, level, fade = shape
    if age >= held + fade:
        return 0
    at = min(age, held)
    if at < rise:
        gain = quotient(at * 256, rise)
    elif at < rise + fall:
        gain = 256 - quotient((256 - level) * (at - rise), fall)
    else:
        gain = level
    return gain if age < held else quotient(gain * (held + fade - age), fade)


def expected_tone(tone, pitch, force, held, age):
    wave, tuning, shape, _ = tone
    step = quotient(tuning[pitch % 12] * 2 ** (pitch // 12), 1024)
    height = expected_height(wave, step * age % 65536, age)
    return quotient(quotient(height * expected_gain(shape, held, age), 256) * force, 128)


def expected_voices(tone, part, tempo, sample):
    """The notes that sound, with held and age, each tick counted."""
    alive = []
    for note in part:
        begin = sum(pace_at(tempo, tick) for tick in range(note[0]))
        held = sum(pace_at(tempo, tick) for tick in range(note[0], note[0] + note[1]))
        age = sample - begin
        if 0 <= age < held + tone[2][3]:
            alive.append((note, held, age))
    while len(alive) > tone[3]:
        alive = alive[1:]
    return alive


class Tunings(unittest.TestCase):
    def test_even_tuning(self):
        self.assertEqual(told(self, even_tuning), EVEN)

    def test_steps(self):
        for tuning in (EVEN, LOWEST, HIGHEST, WIDEST, ROUND):
            for pitch in range(128):
                expected = quotient(tuning[pitch % 12] * 2 ** (pitch // 12), 1024)
                self.assertEqual(told(self, step_of, tuning, pitch), expected)
        self.assertEqual(step_of(EVEN, 0), 11)
        self.assertEqual(step_of(EVEN, 69), 19223 * 32 // 1024)
        self.assertEqual(step_of(EVEN, 127), 17126)
        self.assertEqual(step_of(ROUND, 0), 16)
        self.assertEqual(step_of(LOWEST, 0), 7)
        self.assertEqual(step_of(HIGHEST, 119), 32000 * 512 // 1024)

    def test_what_is_no_tuning(self):
        for value in NO_TUNINGS + ODD + (nested(tuple, 12),):
            refused(self, InvalidTuning, value, step_of, value, 128)
        for value in warped(EVEN):
            refused(self, InvalidTuning, value, step_of, value, 0)

    def test_last_less_than_twice_the_first(self):
        middle = tuple(8001 + k for k in range(10))
        self.assertEqual(step_of((8000,) + middle + (15999,), 11), 15)
        for last in (16000, 16001, 32000):
            value = (8000,) + middle + (last,)
            refused(self, InvalidTuning, value, step_of, value, 11)

    def test_pitches_that_are_refused(self):
        refuses_numbers(self, InvalidNumber, step_of, (EVEN, 0), 1, 0, 127)


class Waves(unittest.TestCase):
    def test_heights_at_turning_points(self):
        # ROUND gives pitch 0 the step 16, pitch 48 the step 256 and pitch 96 the step 4096.
        for wave, heights in (
            (SAW, (-32768, -16384, 0, 16384, -32768)), (SQUARE, (32767, 32767, -32767, -32767, 32767)),
            (PEAK, (-32768, 0, 32767, -1, -32768)), (TWO, (-32767, 0, 32767, 0, -32767)),
            (THREE, (5, 2, -3, -4, 5)),
        ):
            tone = (wave, ROUND, FLAT_SHAPE, 1)
            for quarter, height in enumerate(heights):
                sample = tone_at(tone, 96, 127, 1000, quarter * 4)
                self.assertEqual(sample, height * 127 // 128, (wave, quarter))

    def test_heights_at_all_sorts_of_phases(self):
        # The step of pitch 0 is 11, so at age k times 11's inverse by 65536 the phase is k.
        inverse = pow(11, -1, 65536)
        for wave in WAVES:
            tone = (wave, EVEN, FLAT_SHAPE, 1)
            for phase in (0, 1, 2, 4095, 4096, 16383, 16384, 21845, 21846, 32766, 32767, 32768, 32769, 43690, 43691,
                          49152, 61439, 61440, 65534, 65535):
                age = phase * inverse % 65536
                height = expected_height(wave, phase, age)
                self.assertEqual(told(self, tone_at, tone, 0, 127, 1000000, age), quotient(height * 127, 128))

    def test_noise(self):
        for seed, age, height in ((0, 0, -32768), (0, 1, 30011 ** 2 // 256 % 65536 - 32768)):
            self.assertEqual(tone_at((("noise", seed), EVEN, FLAT_SHAPE, 1), 0, 127, 1000000, age), height * 127 // 128)
        for seed in (0, 1, 65535):
            tone = (("noise", seed), EVEN, FLAT_SHAPE, 1)
            for age in (0, 1, 2, 65535, 65536, 999999):
                number = seed * 40503 + age * 30011
                height = number * number // 256 % 65536 - 32768
                for pitch in (0, 64, 127):
                    self.assertEqual(tone_at(tone, pitch, 127, 1000000, age), height * 127 // 128)


class Shapes(unittest.TestCase):
    def test_gains_in_each_stretch_and_at_its_ends(self):
        # A table of equal values has one height, so samples tell the gain.
        for shape in SHAPES:
            tone = (("table", (32767, 32767)), EVEN, shape, 1)
            rise, fall, _, fade = shape
            for held in sorted({0, 1, 2, rise, rise + 1, max(rise - 1, 0), rise + fall, rise + fall + 5, rise + 3, 9000}):
                ages = {0, 1, rise - 1, rise, rise + 1, rise + fall - 1, rise + fall, held - 1, held, held + 1,
                        held + fade // 2, held + fade - 1, held + fade, held + fade + 1, 1000000}
                for age in sorted(age for age in ages if age >= 0):
                    gain = expected_gain(shape, held, age)
                    self.assertEqual(tone_at(tone, 60, 127, held, age), 32767 * gain // 256 * 127 // 128, (shape, held, age))

    def test_some_gains(self):
        tone = (("table", (32767, 32767)), EVEN, (4, 8, 128, 4), 1)
        for held, gains in (
            (20, (0, 64, 128, 192, 256, 240, 224, 208, 192, 176, 160, 144, 128, 128, 128, 128, 128, 128, 128, 128,
                  128, 96, 64, 32, 0, 0)),
            (2, (0, 64, 128, 96, 64, 32, 0)), (0, (0, 0, 0, 0, 0)), (6, (0, 64, 128, 192, 256, 240, 224, 168, 112, 56, 0)),
        ):
            for age, gain in enumerate(gains):
                self.assertEqual(told(self, tone_at, tone, 60, 127, held, age), 32767 * gain // 256 * 127 // 128, (held, age))

    def test_held_0(self):
        tone = (SQUARE, EVEN, (0, 0, 256, 2), 1)
        self.assertEqual([tone_at(tone, 0, 127, 0, age) for age in range(4)], [32767 * 127 // 128, 32767 * 128 // 256 * 127 // 128, 0, 0])
        self.assertEqual(tone_at((SQUARE, EVEN, FLAT_SHAPE, 1), 0, 127, 0, 0), 0)


class Tones(unittest.TestCase):
    def test_is_tone(self):
        for wave in WAVES:
            for shape in SHAPES:
                for voices in (1, 8):
                    self.assertIs(told(self, is_tone, (wave, EVEN, shape, voices)), True)

    def test_is_no_tone(self):
        for value in ODD + (nested(tuple, 30), 0, (SAW, EVEN, FLAT_SHAPE), (SAW, EVEN, FLAT_SHAPE, 1, 1), (SAW,) * 4):
            self.assertIs(told(self, is_tone, value), False)
        for wave in WAVES:
            for value in warped((wave, EVEN, SHAPES[4], 3)):
                self.assertIs(is_tone(value), False, value)
        for tuning in NO_TUNINGS:
            self.assertIs(is_tone((SAW, tuning, FLAT_SHAPE, 1)), False)

    def test_waves_that_are_none(self):
        for wave in (
            (), ("Saw",), ("noise",), ("table",), ("saw", 0), ("saw", ()), "saw", ["saw"], ("sine",), ("noise", -1),
            ("noise", 65536), ("noise", 1, 1), ("noise", (1,)), ("table", (1,)), ("table", ()), ("table", (1,) * 17),
            ("table", (1, 32768)), ("table", (1, -32768)), ("table", [1, 2]), ("table", 5), ("table", (1, 2), 3),
            ("table", (1, True)), ("peak", None), (("saw",),), ("square", 5), ("table", 1, 2), (TEMPO,), ("noise", METRE),
        ):
            self.assertIs(told(self, is_tone, (wave, EVEN, FLAT_SHAPE, 1)), False, wave)
        for wave in (("noise", 0), ("noise", 65535), ("table", (0, 0)), ("table", (-32767,) * 16)):
            self.assertIs(is_tone((wave, EVEN, FLAT_SHAPE, 1)), True)

    def test_shapes_and_voices_at_their_bounds(self):
        for at, most in enumerate((2000, 2000, 256, 2000)):
            for number in (-1, 0, most, most + 1):
                shape = SHAPES[4][:at] + (number,) + SHAPES[4][at + 1:]
                self.assertIs(is_tone((SAW, EVEN, shape, 1)), 0 <= number <= most)
        for shape in ((), (0, 0, 0), (0, 0, 0, 0, 0), [0, 0, 0, 0]):
            self.assertIs(is_tone((SAW, EVEN, shape, 1)), False)
        for voices in (-1, 0, 1, 8, 9):
            self.assertIs(is_tone((SAW, EVEN, FLAT_SHAPE, voices)), 1 <= voices <= 8)

    def test_tone_at_is_what_the_document_tells(self):
        source = random.Random(11)
        for _ in range(2000):
            tone = (source.choice(WAVES), source.choice((EVEN, LOWEST, WIDEST)), source.choice(SHAPES), 1)
            held = source.choice((0, 3, 12, 40, 1000000))
            age = source.choice((0, source.randrange(60), source.randrange(5000), 1000000))
            arguments = (tone, source.randrange(128), source.choice((1, 64, 127)), held, age)
            self.assertEqual(tone_at(*arguments), expected_tone(*arguments), arguments)

    def test_numbers_that_are_refused(self):
        right = (("saw",), EVEN, SHAPES[4], 2), 60, 100, 50, 20
        refuses_numbers(self, InvalidNumber, tone_at, right, 1, 0, 127)
        refuses_numbers(self, InvalidNumber, tone_at, right, 2, 1, 127)
        refuses_numbers(self, InvalidNumber, tone_at, right, 3, 0, 1000000)
        refuses_numbers(self, InvalidNumber, tone_at, right, 4, 0, 1000000)

    def test_order_of_the_errors(self):
        tone = (SAW, EVEN, FLAT_SHAPE, 1)
        wrong = ([], "pitch", "force", "held", "age")
        refused(self, InvalidTone, wrong[0], tone_at, *wrong)
        refused(self, InvalidNumber, "pitch", tone_at, tone, *wrong[1:])
        refused(self, InvalidNumber, "force", tone_at, tone, 0, *wrong[2:])
        refused(self, InvalidNumber, "held", tone_at, tone, 0, 1, *wrong[3:])
        refused(self, InvalidNumber, "age", tone_at, tone, 0, 1, 0, *wrong[4:])


SLOW = Tempo(((0, 10, "flat"),))
RAMPED = Tempo(((0, 3, "ramp"), (6, 9, "ramp"), (12, 2, "flat")))
PART = ((0, 4, 60, 100), (2, 4, 64, 90), (2, 9, 67, 127), (5, 1, 72, 1), (6, 2, 48, 50), (6, 2, 48, 51))


class Played(unittest.TestCase):
    def test_played_and_voiced_are_what_the_document_tells(self):
        for tempo in (SLOW, RAMPED):
            for wave in (SAW, TWO, NOISES[2]):
                for shape in ((0, 0, 256, 0), (5, 6, 90, 20)):
                    for voices in (1, 2, 3, 8):
                        tone = (wave, EVEN, shape, voices)
                        for sample in range(0, 150, 3):
                            sounds = expected_voices(tone, PART, tempo, sample)
                            notes = tuple(note for note, _, _ in sounds)
                            total = sum(expected_tone(tone, note[2], note[3], held, age) for note, held, age in sounds)
                            self.assertEqual(voiced(tone, PART, tempo, sample), notes)
                            self.assertEqual(played(tone, PART, tempo, sample), total)

    def test_the_last_of_the_part_sound(self):
        tone = (SAW, EVEN, FLAT_SHAPE, 2)
        self.assertEqual(told(self, voiced, tone, PART, SLOW, 35), PART[1:3])
        self.assertEqual(told(self, voiced, tone, PART, SLOW, 65), PART[4:])
        self.assertEqual(told(self, voiced, tone, PART, SLOW, 55), PART[2:4])
        self.assertEqual(told(self, voiced, tone, PART, SLOW, 15), PART[:1])
        same = tuple((0, 5, 60, force) for force in range(1, 21))
        for voices in range(1, 9):
            tone = (SAW, EVEN, (0, 0, 256, 100), voices)
            self.assertEqual(voiced(tone, same, SLOW, 60), same[20 - voices:])

    def test_notes_begin_end_and_fade(self):
        part = ((2, 3, 60, 127),)
        tone = (SQUARE, EVEN, (0, 0, 256, 7), 1)
        for sample, notes in ((19, ()), (20, part), (49, part), (50, part), (56, part), (57, ()), (100000, ()), (0, ())):
            self.assertEqual(told(self, voiced, tone, part, SLOW, sample), notes)
        for sample in (19, 20, 49, 50, 56, 57):
            self.assertEqual(told(self, played, tone, part, SLOW, sample),
                             tone_at(tone, 60, 127, 30, sample - 20) if sample > 19 else 0)
        still = (SQUARE, EVEN, FLAT_SHAPE, 1)
        self.assertEqual(voiced(still, part, SLOW, 49), part)
        self.assertEqual(voiced(still, part, SLOW, 50), ())

    def test_a_note_that_fades_keeps_a_voice(self):
        tone = (SQUARE, EVEN, (0, 0, 256, 100), 1)
        part = ((0, 8, 60, 127), (1, 1, 61, 127))
        self.assertEqual(voiced(tone, part, SLOW, 70), part[1:])
        self.assertEqual(voiced(tone, part, SLOW, 5), part[:1])

    def test_played_is_the_sum_of_tone_at_over_voiced(self):
        tone = (PEAK, WIDEST, (3, 4, 200, 30), 2)
        starts = [sum(pace_at(RAMPED, tick) for tick in range(k)) for k in range(40)]
        for sample in range(120):
            total = 0
            for tick, length, pitch, force in voiced(tone, PART, RAMPED, sample):
                begin = starts[tick]
                total += tone_at(tone, pitch, force, starts[tick + length] - begin, sample - begin)
            self.assertEqual(told(self, played, tone, PART, RAMPED, sample), total)

    def test_no_notes_and_far_notes(self):
        tone = (SAW, EVEN, (0, 0, 256, 2000), 8)
        self.assertEqual(told(self, played, tone, (), SLOW, 0), 0)
        self.assertEqual(told(self, voiced, tone, (), SLOW, 100000), ())
        far = ((2000, 500, 127, 127),)
        self.assertEqual(voiced(tone, far, Tempo(((0, 40, "flat"),)), 100000), far)
        self.assertEqual(voiced(tone, far, Tempo(((0, 41, "flat"),)), 81999), ())
        self.assertEqual(voiced(tone, far, Tempo(((0, 400, "flat"),)), 100000), ())
        self.assertEqual(voiced(tone, far, Tempo(((0, 1, "flat"),)), 4499), far)
        self.assertEqual(voiced(tone, far, Tempo(((0, 1, "flat"),)), 4500), ())

    def test_wrong_arguments_in_their_order(self):
        tone = (SAW, EVEN, FLAT_SHAPE, 1)
        for function in (played, voiced):
            for value in ODD:
                refused(self, InvalidTone, value, function, value, [1], SLOW, -1)
                refused(self, InvalidPart, value, function, tone, value, SLOW, -1)
            for value in warped(tone):
                refused(self, InvalidTone, value, function, value, PART, SLOW, 0)
            for value in warped(PART[:2]):
                refused(self, InvalidPart, value, function, tone, value, SLOW, 0)
            refuses_numbers(self, InvalidNumber, function, (tone, PART, SLOW, 0), 3, 0, 100000)


if __name__ == "__main__":
    unittest.main()
