"""[15] to [17] Sounds and clips."""

import random
import unittest
from fractions import Fraction
from math import floor

from tests.helpers import ODD, nested, refused, refuses_numbers, told, undefined, warped
from trackloom.clips import clip_at, is_clip, is_pool, merged, slid, split
from trackloom.errors import InvalidClip, InvalidNumber, InvalidPool

LOUD = tuple(k * 7919 % 65536 - 32768 for k in range(40))
POOL = (("a", (32767, -32768, 100, -100, 7)), ("b", ()), ("long", tuple(k % 65536 - 300 for k in range(600))), ("loud", LOUD))
PLAIN = ("a", 3, 5, 0, (1, 1), 256, (0, 0), (0, 0))
CLIP = ("loud", 10, 30, 2, (1, 1), 256, (1, 8), (2, 20))
CLIPS = (
    PLAIN, CLIP,
    ("loud", 0, 50, -5, (1, 2), -300, (0, 4), (0, 0)),
    ("loud", 7, 45, 39, (-1, 1), 1024, (0, 0), (0, 45)),
    ("loud", 7, 60, 60, (-3, 2), -1024, (3, 3), (4000, 4000)),
    ("loud", 1, 10, 20, (0, 8), 255, (0, 30), (0, 30)),
    ("long", 0, 80, -100, (8, 1), 17, (0, 4000), (3990, 4000)),
    ("long", 20000, 2, 599, (-8, 7), 1, (4000, 1), (1, 4000)),
    ("none", 0, 9, 0, (1, 1), 256, (0, 0), (0, 0)),
    ("b", 0, 9, 0, (1, 1), 256, (0, 0), (0, 0)),
    ("loud", 5, 1, 3, (2, 3), 256, (0, 1), (0, 1)),
)
NO_POOLS = (
    None, [], 0, POOL[::-1], POOL + POOL[:1], (("a", (1,)), ("a", (2,))), (("a", ()), ("a", ())), (("b", ()), ("a", ())),
    (("", ()),), (("abcdefghi", ()),), (("A", ()),), (("a1", ()),), (("a b", ()),), (("a_", ()),), (("\u00e9", ()),),
    (("a", (32768,)),), (("a", (-32769,)),), (("a", [1]),), (("a", None),), (("a",),), (("a", (), ()),), ((),),
    ("a", ()), (["a", ()],), ((b"a", ()),), (("a", (0,) * 601),), ((1, ()),), (("a", 5),), (("a\n", ()),), (("`", ()),),
    (("{", ()),), (("a", (True,)),), (("a", ((),)),),
)


def quotient(number, by):
    """Rounded down, over fractions."""
    return floor(Fraction(number, by))


def expected(pool, clip, sample):
    """What the clip gives at the sample, as the document tells it."""
    name, at, length, start, (a, b), gain, rise, fall = clip
    j = sample - at
    if j not in range(length):
        return 0
    sound = dict(pool).get(name, ())
    i = quotient(start + j * a, b)
    x = sound[i] if i in range(len(sound)) else 0
    x = quotient(x * gain, 256)
    if rise[1] != 0:
        x = quotient(x * min(rise[1], rise[0] + j), rise[1])
    if fall[1] != 0:
        x = quotient(x * min(fall[1], fall[0] + length - 1 - j), fall[1])
    return x


def some_clip(source):
    """A short clip of any kind."""
    ramps = ((0, 0), (0, 5), (2, 9), (3990, 4000), (4000, 3), (3999, 1))
    return (
        source.choice(("a", "loud", "none")), source.randrange(0, 20), source.randrange(1, 14), source.randrange(-9, 50),
        (source.randrange(-8, 9), source.randrange(1, 9)), source.randrange(-1024, 1025), source.choice(ramps),
        source.choice(ramps),
    )


def changed(clip, at, value):
    """The clip with another member in place of the one numbered at."""
    return clip[:at] + (value,) + clip[at + 1:]


class Pools(unittest.TestCase):
    def test_pools(self):
        twelve = tuple((letter * 8, (0,)) for letter in "abcdefghijkl")
        for pool in (
            (), POOL, POOL[:1], twelve, (("z", (32767, -32768)),), (("abcdefgh", ()),), (("a", (0,) * 600),),
            (("a", ()), ("aa", ())), (("azazazaz", ()), ("z", ())),
        ):
            self.assertIs(told(self, is_pool, pool), True)
        self.assertIs(is_pool(twelve + (("z", ()),)), False)

    def test_no_pools(self):
        for value in NO_POOLS + ODD + (nested(tuple, 30),):
            self.assertIs(told(self, is_pool, value), False, value)
        for value in warped(POOL[:2]):
            self.assertIs(is_pool(value), False, value)


class Clips(unittest.TestCase):
    def test_clips(self):
        for clip in CLIPS:
            self.assertIs(told(self, is_clip, clip), True)

    def test_no_clips(self):
        for value in ODD + (nested(tuple, 30), 0, PLAIN[:7], PLAIN + (0,), list(PLAIN)):
            self.assertIs(told(self, is_clip, value), False, value)
        for clip in CLIPS[:3]:
            for value in warped(clip):
                self.assertIs(is_clip(value), False, value)

    def test_numbers_at_their_bounds(self):
        for at, low, high in ((1, 0, 20000), (2, 1, 2000), (3, -100000, 100000), (5, -1024, 1024)):
            for number in (low - 1, low, high, high + 1):
                self.assertIs(is_clip(changed(PLAIN, at, number)), low <= number <= high, (at, number))

    def test_names_rates_rises_and_falls_at_their_bounds(self):
        for rate, fine in (((-8, 8), True), ((8, 1), True), ((0, 1), True), ((9, 1), False), ((-9, 1), False),
                           ((1, 0), False), ((1, 9), False), ((1, -1), False), ((1,), False), ((1, 1, 1), False)):
            self.assertIs(is_clip(changed(PLAIN, 4, rate)), fine, rate)
        for ramp, fine in (((0, 0), True), ((0, 1), True), ((4000, 1), True), ((4000, 4000), True), ((1, 0), False),
                           ((4000, 0), False), ((4001, 1), False), ((0, 4001), False), ((-1, 1), False),
                           ((0, -1), False), ((0,), False), ((0, 1, 2), False), ((), False)):
            self.assertIs(is_clip(changed(PLAIN, 6, ramp)), fine, ramp)
            self.assertIs(is_clip(changed(PLAIN, 7, ramp)), fine, ramp)
        for name, fine in (("a", True), ("zzzzzzzz", True), ("", False), ("zzzzzzzzz", False), ("aB", False), ("a1", False)):
            self.assertIs(is_clip(changed(PLAIN, 0, name)), fine, name)


class ClipAt(unittest.TestCase):
    def test_as_the_document_tells(self):
        for clip in CLIPS:
            at, length = clip[1], clip[2]
            for sample in list(range(max(at - 2, 0), at + length + 2)) + [0, 100000]:
                self.assertEqual(clip_at(POOL, clip, sample), expected(POOL, clip, sample), (clip, sample))

    def test_ahead_first_last_and_behind(self):
        for sample, value in ((0, 0), (2, 0), (3, 32767), (4, -32768), (7, 7), (8, 0), (100000, 0)):
            self.assertEqual(told(self, clip_at, POOL, PLAIN, sample), value)

    def test_forward_back_and_still(self):
        for start, rate, values in (
            (0, (1, 1), (32767, -32768, 100, -100, 7)), (4, (-1, 1), (7, -100, 100, -32768, 32767)),
            (0, (1, 2), (32767, 32767, -32768, -32768, 100)), (1, (0, 1), (-32768,) * 5), (3, (2, 1), (-100, 0, 0, 0, 0)),
            (-2, (1, 1), (0, 0, 32767, -32768, 100)), (1, (-1, 1), (-32768, 32767, 0, 0, 0)),
            (-1, (1, 2), (0, 32767, 32767, -32768, -32768)), (5, (0, 1), (0,) * 5), (8, (-1, 2), (7, -100, -100, 100, 100)),
            (-1, (0, 8), (0,) * 5), (7, (0, 8), (32767,) * 5), (39, (0, 8), (7,) * 5), (40, (0, 8), (0,) * 5),
        ):
            clip = changed(changed(PLAIN, 3, start), 4, rate)
            self.assertEqual(tuple(told(self, clip_at, POOL, clip, 3 + k) for k in range(5)), values, (start, rate))

    def test_gains_are_rounded_down(self):
        for gain, values in ((1, (127, -128, 0, -1, 0)), (-1, (-128, 128, -1, 0, -1)), (0, (0,) * 5),
                             (-256, (-32767, 32768, -100, 100, -7)), (1024, (131068, -131072, 400, -400, 28))):
            clip = changed(PLAIN, 5, gain)
            self.assertEqual(tuple(told(self, clip_at, POOL, clip, 3 + k) for k in range(5)), values)

    def test_rise_and_fall(self):
        pool = (("a", (100, -100, 100, -100, 100)),)
        for rise, fall, values in (
            ((0, 3), (0, 0), (0, -34, 66, -100, 100)), ((1, 3), (0, 0), (33, -67, 100, -100, 100)),
            ((3, 3), (0, 0), (100, -100, 100, -100, 100)), ((0, 0), (0, 3), (100, -100, 66, -34, 0)),
            ((0, 0), (2, 3), (100, -100, 100, -100, 66)), ((0, 3), (0, 3), (0, -34, 44, -34, 0)),
            ((0, 4000), (0, 0), (0, -1, 0, -1, 0)), ((4000, 4000), (4000, 1), (100, -100, 100, -100, 100)),
        ):
            clip = PLAIN[:6] + (rise, fall)
            self.assertEqual(tuple(told(self, clip_at, pool, clip, 3 + k) for k in range(5)), values, (rise, fall))

    def test_names_that_the_pool_does_not_have(self):
        self.assertEqual(told(self, clip_at, (), PLAIN, 3), 0)
        self.assertEqual(told(self, clip_at, POOL, changed(PLAIN, 0, "aa"), 3), 0)
        self.assertEqual(told(self, clip_at, POOL, changed(PLAIN, 0, "b"), 3), 0)

    def test_wrong_arguments_in_their_order(self):
        for value in NO_POOLS + ODD:
            refused(self, InvalidPool, value, clip_at, value, [1], -1)
        for value in warped(POOL[:2]):
            refused(self, InvalidPool, value, clip_at, value, PLAIN, 0)
        for value in ODD + (PLAIN[:7],) + tuple(warped(CLIP)):
            refused(self, InvalidClip, value, clip_at, POOL, value, -1)
        refuses_numbers(self, InvalidNumber, clip_at, (POOL, PLAIN, 0), 2, 0, 100000)


class Split(unittest.TestCase):
    def test_halves(self):
        self.assertEqual(told(self, split, CLIP, 12), (
            ("loud", 10, 12, 2, (1, 1), 256, (1, 8), (20, 20)), ("loud", 22, 18, 14, (1, 1), 256, (13, 8), (2, 20)),
        ))
        self.assertEqual(told(self, split, PLAIN, 1), (
            ("a", 3, 1, 0, (1, 1), 256, (0, 0), (0, 0)), ("a", 4, 4, 1, (1, 1), 256, (0, 0), (0, 0)),
        ))

    def test_done_is_at_most_4000(self):
        clip = ("long", 0, 80, -100, (-8, 3), 17, (3990, 4000), (3950, 4000))
        self.assertEqual(told(self, split, clip, 10), (
            ("long", 0, 10, -100, (-8, 3), 17, (3990, 4000), (4000, 4000)),
            ("long", 10, 70, -180, (-8, 3), 17, (4000, 4000), (3950, 4000)),
        ))
        self.assertEqual(split(clip, 11)[1][6], (4000, 4000))
        self.assertEqual(split(clip, 9)[1][6], (3999, 4000))
        self.assertEqual(split(clip, 31)[0][7], (3999, 4000))
        self.assertEqual(split(clip, 30)[0][7], (4000, 4000))

    def test_both_sound_as_the_clip_did(self):
        source = random.Random(12)
        for clip in CLIPS[:7] + tuple(some_clip(source) for _ in range(60)):
            for many in range(1, clip[2]):
                one, other = told(self, split, clip, many)
                self.assertIs(is_clip(one) and is_clip(other), True)
                for sample in range(max(clip[1] - 1, 0), clip[1] + clip[2] + 1):
                    both = expected(POOL, one, sample) + expected(POOL, other, sample)
                    self.assertEqual(both, expected(POOL, clip, sample))
                    self.assertEqual(clip_at(POOL, one, sample) + clip_at(POOL, other, sample), both)

    def test_room_of_start_and_at(self):
        up = ("a", 0, 3, 99999, (1, 1), 0, (0, 0), (0, 0))
        self.assertEqual(told(self, split, up, 1)[1][3], 100000)
        undefined(self, "room", split, up, 2)
        down = ("a", 0, 9, -99984, (-8, 1), 0, (0, 0), (0, 0))
        self.assertEqual(told(self, split, down, 2)[1][3], -100000)
        undefined(self, "room", split, down, 3)
        late = ("a", 19999, 3, 0, (1, 1), 0, (0, 0), (0, 0))
        self.assertEqual(told(self, split, late, 1)[1][1], 20000)
        undefined(self, "room", split, late, 2)

    def test_wrong_arguments(self):
        for value in ODD + (PLAIN[:7],) + tuple(warped(CLIP)):
            refused(self, InvalidClip, value, split, value, 0)
        refuses_numbers(self, InvalidNumber, split, (CLIP, 1), 1, 1, 29)
        refuses_numbers(self, InvalidNumber, split, (changed(CLIP, 2, 2000), 1), 1, 1, 1999)
        for many in (-1, 0, 1, 2):
            refused(self, InvalidNumber, many, split, changed(CLIP, 2, 1), many)
        late = ("a", 20000, 3, 0, (1, 1), 0, (0, 0), (0, 0))
        refused(self, InvalidNumber, 3, split, late, 3)


class Merged(unittest.TestCase):
    def test_of_the_halves_is_the_clip(self):
        source = random.Random(13)
        for clip in CLIPS[:7] + tuple(some_clip(source) for _ in range(60)):
            for many in range(1, clip[2]):
                one, other = split(clip, many)
                self.assertEqual(told(self, merged, one, other), clip)

    def test_of_what_are_no_halves(self):
        one, other = split(CLIP, 12)
        undefined(self, "whole", merged, other, one)
        undefined(self, "whole", merged, one, one)
        undefined(self, "whole", merged, CLIP, CLIP)
        for at, value in ((0, "a"), (1, 23), (2, 17), (2, 19), (3, 15), (4, (1, 2)), (4, (2, 2)), (5, 255), (6, (12, 8)),
                          (6, (13, 9)), (6, (0, 0)), (7, (1, 20)), (7, (2, 19)), (7, (0, 0))):
            undefined(self, "whole", merged, one, changed(other, at, value))
        for at, value in ((0, "a"), (1, 9), (2, 11), (3, 1), (4, (2, 1)), (5, -256), (6, (2, 8)), (6, (1, 7)), (6, (0, 0)),
                          (7, (19, 20)), (7, (20, 21)), (7, (0, 0)), (7, (4000, 20))):
            undefined(self, "whole", merged, changed(one, at, value), other)

    def test_done_that_was_cut_off(self):
        one = ("a", 0, 10, 0, (1, 1), 0, (3995, 9), (4000, 9))
        other = ("a", 10, 10, 10, (1, 1), 0, (4000, 9), (3995, 9))
        self.assertEqual(told(self, merged, one, other), ("a", 0, 20, 0, (1, 1), 0, (3995, 9), (3995, 9)))
        undefined(self, "whole", merged, one, changed(other, 6, (3999, 9)))
        undefined(self, "whole", merged, changed(one, 7, (3999, 9)), other)
        undefined(self, "whole", merged, changed(one, 6, (3989, 9)), other)
        self.assertEqual(merged(changed(one, 6, (3990, 9)), other)[6], (3990, 9))

    def test_longest(self):
        whole = ("a", 0, 2000, 0, (1, 1), 0, (0, 9), (0, 9))
        one, other = split(whole, 1000)
        self.assertEqual(told(self, merged, one, other), whole)
        longer = ("a", 1000, 1001, 1000, (1, 1), 0, (1000, 9), (0, 9))
        undefined(self, "whole", merged, changed(one, 7, (1001, 9)), longer)

    def test_bounds_of_at_and_start(self):
        one = ("a", 19999, 1, 99999, (1, 1), 0, (0, 0), (0, 0))
        other = ("a", 20000, 1, 100000, (1, 1), 0, (0, 0), (0, 0))
        self.assertEqual(told(self, merged, one, other), changed(one, 2, 2))

    def test_just_what_some_split_makes(self):
        source = random.Random(14)
        for _ in range(300):
            clip = some_clip(source)
            if clip[2] == 1:
                continue
            pair = list(split(clip, source.randrange(1, clip[2])))
            side, at = source.randrange(2), source.randrange(1, 4)
            pair[side] = changed(pair[side], at, max(pair[side][at] + source.choice((-1, 0, 1)), 1))
            length = pair[0][2] + pair[1][2]
            whole = pair[0][:2] + (length,) + pair[0][3:7] + pair[1][7:]
            if split(whole, pair[0][2]) == tuple(pair):
                self.assertEqual(merged(*pair), whole)
            else:
                undefined(self, "whole", merged, *pair)

    def test_wrong_arguments(self):
        for value in ODD + (PLAIN[:7],) + tuple(warped(CLIP)):
            refused(self, InvalidClip, value, merged, value, [1])
            refused(self, InvalidClip, value, merged, CLIP, value)


class Slid(unittest.TestCase):
    def test_slid(self):
        self.assertEqual(told(self, slid, CLIP, 5), changed(CLIP, 1, 15))
        self.assertEqual(told(self, slid, CLIP, -10), changed(CLIP, 1, 0))
        self.assertEqual(told(self, slid, CLIP, 0), CLIP)
        self.assertEqual(told(self, slid, CLIP, 19990), changed(CLIP, 1, 20000))
        self.assertEqual(told(self, slid, changed(CLIP, 1, 20000), -20000), changed(CLIP, 1, 0))
        self.assertEqual(told(self, slid, changed(CLIP, 1, 0), 20000), changed(CLIP, 1, 20000))

    def test_beyond_the_room(self):
        for many in (-11, -20000, 19991, 20000):
            undefined(self, "room", slid, CLIP, many)

    def test_wrong_arguments(self):
        for value in ODD + (PLAIN[:7],) + tuple(warped(CLIP)):
            refused(self, InvalidClip, value, slid, value, 20001)
        refuses_numbers(self, InvalidNumber, slid, (CLIP, 0), 1, -20000, 20000)


if __name__ == "__main__":
    unittest.main()
