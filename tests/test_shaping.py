"""[42] Sounds shaped."""

import random
import unittest
from fractions import Fraction
from math import floor, trunc

from tests.helpers import NO_SOUNDS, ODD, refused, refuses_numbers, some_sound, told, undefined
from trackloom.clips import clip_at, is_pool
from trackloom.errors import InvalidNumber, InvalidSamples, Undefined
from trackloom.packing import packed, spliced, unpacked
from trackloom.shaping import blended, drawn, mixed, quiet, scaled, turned

LONG = tuple(k * 7919 % 65536 - 32768 for k in range(600))


def is_sound(value):
    return is_pool((("a", value),))


def held(number):
    return sorted((-32768, number, 32767))[1]


class Turned(unittest.TestCase):
    def test_by_hand(self):
        for sound, expected in (((), ()), ((5,), (5,)), ((1, -2, 3), (3, -2, 1)), (LONG, tuple(reversed(LONG)))):
            self.assertEqual(told(self, turned, sound), expected)
            self.assertEqual(turned(turned(sound)), sound)

    def test_refused(self):
        for value in NO_SOUNDS:
            refused(self, InvalidSamples, value, turned, value)

    def test_a_clip_that_goes_back_hears_the_sound_turned(self):
        source = random.Random(301)
        for _ in range(30):
            sound = some_sound(source, source.randrange(1, 40))
            gain = source.choice((256, -100, 1024))
            back = ("a", 3, len(sound), len(sound) - 1, (-1, 1), gain, (0, 5), (0, 0))
            forth = ("a", 3, len(sound), 0, (1, 1), gain, (0, 5), (0, 0))
            for sample in range(len(sound) + 5):
                self.assertEqual(clip_at((("a", sound),), back, sample), clip_at((("a", turned(sound)),), forth, sample))


class Drawn(unittest.TestCase):
    def expected(self, sound, up, down):
        samples = []
        j = 0
        while j * down < len(sound) * up:
            i, r = divmod(j * down, up)
            a = sound[i]
            b = sound[i + 1] if i + 1 < len(sound) else sound[-1]
            samples.append(floor(a + Fraction((b - a) * r, up)))
            j += 1
        return tuple(samples)

    def test_by_hand(self):
        for sound, up, down, expected in (
            ((), 8, 1, ()), ((7,), 3, 1, (7, 7, 7)), ((7,), 1, 8, (7,)), ((10, 20, 30), 2, 1, (10, 15, 20, 25, 30, 30)),
            ((0, -1), 3, 1, (0, -1, -1, -1, -1, -1)), ((0, 5, -5), 2, 3, (0, 0)), ((1, 2, 3, 4, 5), 1, 2, (1, 3, 5)),
            ((0, 10, 20, 30), 3, 2, (0, 6, 13, 20, 26, 30)), ((-32768, 32767), 2, 1, (-32768, -1, 32767, 32767)),
            ((5, -5), 2, 2, (5, -5)),
        ):
            self.assertEqual(told(self, drawn, sound, up, down), expected)
            self.assertEqual(self.expected(sound, up, down), expected)

    def test_all_up_and_down(self):
        source = random.Random(302)
        for up in range(1, 9):
            for down in range(1, 9):
                for many in (0, 1, 2, 3, 30, 75, 599, 600):
                    sound = some_sound(source, many)
                    expected = self.expected(sound, up, down)
                    if len(expected) > 600:
                        undefined(self, "many", drawn, sound, up, down)
                    else:
                        made = drawn(sound, up, down)
                        self.assertEqual(made, expected)
                        self.assertTrue(is_sound(made))

    def test_bounds_of_many(self):
        self.assertEqual(len(told(self, drawn, LONG[:75], 8, 1)), 600)
        undefined(self, "many", drawn, LONG[:76], 8, 1)
        self.assertEqual(len(told(self, drawn, LONG, 8, 8)), 600)
        undefined(self, "many", drawn, LONG, 8, 7)
        self.assertEqual(len(told(self, drawn, LONG[:200], 3, 1)), 600)
        undefined(self, "many", drawn, LONG[:201], 3, 1)
        self.assertEqual(len(drawn(LONG[:525], 8, 7)), 600)
        undefined(self, "many", drawn, LONG[:526], 8, 7)
        # The last of 601 samples is the last one of the sound itself.
        undefined(self, "many", drawn, LONG[:343], 7, 4)

    def test_up_and_down_again(self):
        source = random.Random(303)
        for up in range(1, 9):
            for many in (0, 1, 2, 40, 75):
                sound = some_sound(source, many)
                self.assertEqual(drawn(drawn(sound, up, 1), 1, up), sound)

    def test_refused_in_their_order(self):
        for value in NO_SOUNDS:
            refused(self, InvalidSamples, value, drawn, value, 0, 0)
        for value in ODD + (0, 9, -1):
            refused(self, InvalidNumber, value, drawn, LONG, value, None)
        refuses_numbers(self, InvalidNumber, drawn, (LONG[:9], 1, 2), 1, 1, 8)
        refuses_numbers(self, InvalidNumber, drawn, (LONG, 8, 2), 2, 1, 8)


class Mixed(unittest.TestCase):
    def test_by_hand(self):
        for one, other, at, expected in (
            ((), (), 0, ()), ((1, 2), (), 0, (1, 2)), ((), (1, 2), 0, (1, 2)), ((1, 2), (10, -20, 30), 0, (11, -18, 30)),
            ((1, 2, 3), (10,), 1, (1, 12, 3)), ((1,), (5,), 1, (1, 5)), ((1,), (5,), 3, (1, 0, 0, 5)), ((), (5,), 2, (0, 0, 5)),
            ((1,), (), 3, (1, 0, 0)), ((), (), 4, (0, 0, 0, 0)), ((1, 2, 3), (), 3, (1, 2, 3)),
            ((32767, 32767, -32768, -32768), (1, -1, -1, 1), 0, (32767, 32766, -32768, -32767)),
            ((32767, -32768), (32767, -32768), 0, (32767, -32768)),
        ):
            self.assertEqual(told(self, mixed, one, other, at), expected)

    def test_drawn_ones(self):
        source = random.Random(304)
        for _ in range(100):
            one, other = (some_sound(source, source.choice((0, 1, 40, 300))) for _ in range(2))
            at = source.choice((0, 1, len(one), len(one) + 7, 300))
            many = max(len(one), at + len(other))
            expected = tuple(held((one[k] if k < len(one) else 0) + (other[k - at] if 0 <= k - at < len(other) else 0))
                             for k in range(many))
            self.assertEqual(mixed(one, other, at), expected)

    def test_bounds_of_many(self):
        self.assertEqual(mixed(LONG, LONG, 0), tuple(held(2 * sample) for sample in LONG))
        undefined(self, "many", mixed, LONG, LONG, 1)
        self.assertEqual(told(self, mixed, (), (), 600), (0,) * 600)
        undefined(self, "many", mixed, (), (1,), 600)
        self.assertEqual(mixed((), (1,), 599), (0,) * 599 + (1,))
        self.assertEqual(mixed(LONG, (), 600), LONG)

    def test_refused_in_their_order(self):
        for value in NO_SOUNDS:
            refused(self, InvalidSamples, value, mixed, value, [], -1)
            refused(self, InvalidSamples, value, mixed, LONG, value, -1)
        refuses_numbers(self, InvalidNumber, mixed, (LONG[:9], LONG[:5], 1), 2, 0, 600)


class Blended(unittest.TestCase):
    def test_by_hand(self):
        for one, other, many, expected in (
            ((), (), 0, ()), ((1, 2), (3,), 0, (1, 2, 3)), ((), (1, 2), 0, (1, 2)), ((1, 2), (), 0, (1, 2)),
            ((10,), (20,), 1, (15,)), ((10,), (-20,), 1, (-5,)), ((0,), (-1,), 1, (-1,)), ((5, 6, 0), (30, 7), 1, (5, 6, 15, 7)),
            ((0, 0, 0), (3, 3, 3), 2, (0, 1, 2, 3)), ((9, 9, 9), (0, 0, 0), 3, (6, 4, 2)),
            ((-32768,) * 2, (32767,) * 2, 2, (-10923, 10922)),
        ):
            self.assertEqual(told(self, blended, one, other, many), expected)

    def test_drawn_ones(self):
        source = random.Random(305)
        for _ in range(100):
            one, other = (some_sound(source, source.choice((0, 1, 2, 40, 300))) for _ in range(2))
            for many in {0, 1, min(len(one), len(other)) // 2, min(len(one), len(other))}:
                if many <= min(len(one), len(other)):
                    x = one[len(one) - many:]
                    between = tuple(floor(Fraction(x[j] * (many - j) + other[j] * (j + 1), many + 1)) for j in range(many))
                    made = blended(one, other, many)
                    self.assertEqual(made, one[:len(one) - many] + between + other[many:])
                    self.assertTrue(is_sound(made))

    def test_bounds_of_many(self):
        self.assertEqual(len(told(self, blended, LONG, LONG, 600)), 600)
        undefined(self, "many", blended, LONG, LONG, 599)
        undefined(self, "many", blended, LONG, (1,), 0)
        self.assertEqual(len(told(self, blended, LONG, (1,), 1)), 600)
        self.assertEqual(blended(LONG[:300], LONG[300:], 0), LONG)

    def test_refused_in_their_order(self):
        for value in NO_SOUNDS:
            refused(self, InvalidSamples, value, blended, value, [], -1)
            refused(self, InvalidSamples, value, blended, LONG, value, -1)
        refuses_numbers(self, InvalidNumber, blended, (LONG[:9], LONG[:5], 1), 2, 0, 5)
        refuses_numbers(self, InvalidNumber, blended, (LONG[:4], LONG[:5], 1), 2, 0, 4)
        refuses_numbers(self, InvalidNumber, blended, (LONG, LONG, 1), 2, 0, 600)
        refuses_numbers(self, InvalidNumber, blended, ((), LONG, 0), 2, 0, 0)

    def test_spliced_streams_unpack_to_them_blended_with_0(self):
        source = random.Random(306)
        for _ in range(20):
            one, other = some_sound(source, source.choice((0, 64, 320))), some_sound(source, source.randrange(200))
            self.assertEqual(unpacked(spliced(packed(one, 0), packed(other, 0))), blended(one, other, 0))


class Scaled(unittest.TestCase):
    def test_by_hand(self):
        for sound, top, expected in (
            ((1,), 32767, (32767,)), ((-1,), 32767, (-32767,)), ((0, 2, -4), 10, (0, 5, -10)), ((3, -3, 7), 5, (2, -2, 5)),
            ((-32768, 32767, 1), 32767, (-32767, 32766, 0)), ((-32768,), 1, (-1,)), ((-32768, 32767, -32767), 1, (-1, 0, 0)),
            ((5, -5, 0), 5, (5, -5, 0)), ((-7, 3), 2, (-2, 0)), ((-7, -3), 2, (-2, 0)),
        ):
            self.assertEqual(told(self, scaled, sound, top), expected)

    def test_drawn_ones(self):
        source = random.Random(307)
        for _ in range(100):
            sound = some_sound(source, source.choice((1, 2, 50, 600)))
            most = max(map(abs, sound))
            for top in (1, 2, 100, 32767):
                if most == 0:
                    undefined(self, "quiet", scaled, sound, top)
                else:
                    made = scaled(sound, top)
                    self.assertEqual(made, tuple(trunc(Fraction(sample * top, most)) for sample in sound))
                    self.assertEqual(max(map(abs, made)), top)
                    self.assertEqual(scaled(made, top), made)

    def test_quiet_ones(self):
        for sound in ((), (0,), (0,) * 600):
            for top in (1, 32767):
                undefined(self, "quiet", scaled, sound, top)

    def test_refused_in_their_order(self):
        for value in NO_SOUNDS:
            refused(self, InvalidSamples, value, scaled, value, 0)
        refuses_numbers(self, InvalidNumber, scaled, ((1, 2), 1), 1, 1, 32767)
        refuses_numbers(self, InvalidNumber, scaled, ((0,), 1), 1, 1, 32767)


class Quiet(unittest.TestCase):
    def test_by_hand(self):
        for sound, top, expected in (
            ((), 5, ()), ((5,), 5, ((0, 1),)), ((6,), 5, ()), ((-6,), 5, ()), ((-5,), 5, ((0, 1),)),
            ((0, 9, 0, 0, 9, 0), 5, ((0, 1), (2, 4), (5, 6))), ((9, 0, 9), 0, ((1, 2),)), ((9, 9, 9), 8, ()),
            ((9, 0, 0), 1, ((1, 3),)), ((0, 0, 9), 1, ((0, 2),)), ((9, 1, 0), 0, ((2, 3),)), ((0, 0, 0), 0, ((0, 3),)),
            ((-32768, 32767), 32767, ((1, 2),)), ((-32768, 32767), 32768, ((0, 2),)), ((32767, -32768), 32767, ((0, 1),)),
        ):
            self.assertEqual(told(self, quiet, sound, top), expected)

    def test_drawn_ones(self):
        source = random.Random(308)
        for _ in range(100):
            sound = tuple(source.choice((0, 1, -1, 2, -2, 300)) for _ in range(source.choice((0, 1, 2, 30, 600))))
            for top in (0, 1, 2, 300):
                fine = [abs(sample) <= top for sample in sound]
                made = told(self, quiet, sound, top)
                self.assertEqual([at for first, last in made for at in range(first, last)],
                                 [at for at in range(len(sound)) if fine[at]])
                # No two rows touch, and none is empty, so none can be made longer.
                self.assertTrue(all(first < last for first, last in made))
                self.assertTrue(all(one[1] < other[0] for one, other in zip(made, made[1:])))

    def test_refused_in_their_order(self):
        for value in NO_SOUNDS:
            refused(self, InvalidSamples, value, quiet, value, -1)
        refuses_numbers(self, InvalidNumber, quiet, ((1, 2), 1), 1, 0, 32768)

    def test_what_is_undefined_stands_under_studio_error(self):
        with self.assertRaises(Undefined):
            scaled((), 1)


if __name__ == "__main__":
    unittest.main()
