"""[18] to [20] Effects."""

import random
import unittest

from tests.helpers import ODD, PROJECT, is_plain, nested, refused, told, warped
from tests.meaning import BOUND, effect_on, some_effect
from trackloom.effects import delay_of, fresh, heard, is_effect, pushed, span_of
from trackloom.errors import InvalidEffect, InvalidSamples

EFFECTS = (
    ("gain", 100), ("gain", -1024), ("gain", 1024), ("gain", 0), ("wait", 0), ("wait", 1), ("wait", 200),
    ("echo", 1, 255), ("echo", 1, -255), ("echo", 200, 200), ("echo", 3, 0), ("smooth", 1), ("smooth", 100),
    ("smooth", 256), ("mix", (256,)), ("mix", (0,)), ("mix", (1, -2, 3, -256, 256, 0, 7, 255)), ("mix", (-256,) * 8),
    ("crush", 1), ("crush", 15), ("limit", 1, 0), ("limit", 1, 32), ("limit", BOUND, 5), ("limit", 1000, 3),
)
# All members are at their bounds, or one beyond.
AT_BOUNDS = (
    (lambda n: ("gain", n), -1024, 1024), (lambda n: ("wait", n), 0, 200), (lambda n: ("echo", n, 1), 1, 200),
    (lambda n: ("echo", 1, n), -255, 255), (lambda n: ("smooth", n), 1, 256), (lambda n: ("mix", (n,)), -256, 256),
    (lambda n: ("mix", (0,) * 7 + (n,)), -256, 256), (lambda n: ("crush", n), 1, 15),
    (lambda n: ("limit", n, 0), 1, BOUND), (lambda n: ("limit", 1, n), 0, 32),
)
NO_EFFECTS = ODD + (
    0, (), "gain", ("gain",), ("gain", 1, 1), ("wait",), ("wait", 1, 1), ("echo", 1), ("echo", 1, 1, 1), ("smooth",),
    ("smooth", 1, 1), ("mix", ()), ("mix", (0,) * 9), ("mix", 1), ("mix", 1, 2), ("mix", (1,), (1,)), ("mix", [1]),
    ("crush",), ("crush", 1, 1), ("limit", 1), ("limit", 1, 1, 1), ("Gain", 1), ("", 1), ("none", 1), (None, 1),
    (1, 1), (("gain",), 1), (["gain"], 1), ({}, 1), ["gain", 1], ("gain", None), ("gain", "1"), ("gain", True),
    ("mix", (True,)), ("mix", "ab"), ("limit", True, 0), (PROJECT, 1), ("gain", PROJECT), nested(tuple, 3),
)
NO_SAMPLES = tuple(value for value in ODD if value != (0,) * 9) + (
    0, [], [1], (1, True), (1, None), (1, "1"), (1, (1,)), (BOUND + 1,), (-BOUND - 1,), (0,) * 2001, (PROJECT,), "12",
)
LOUD = (BOUND, -BOUND, BOUND, BOUND, BOUND, -BOUND, 0, 1, -1)


def some_samples(source, many):
    bound = source.choice((3, 1000, BOUND))
    return tuple(source.choice((0, bound, -bound, source.randrange(-bound, bound + 1))) for _ in range(many))


class Forms(unittest.TestCase):
    def test_effects(self):
        for effect in EFFECTS:
            self.assertIs(told(self, is_effect, effect), True)

    def test_bounds(self):
        for made, low, high in AT_BOUNDS:
            for number, fine in ((low, True), (high, True), (low - 1, False), (high + 1, False), (10 ** 11, False)):
                self.assertIs(is_effect(made(number)), fine, made(number))

    def test_no_effects(self):
        for value in NO_EFFECTS:
            self.assertIs(told(self, is_effect, value), False, value)
        for effect in EFFECTS:
            for value in warped(effect):
                self.assertIs(is_effect(value), False, value)

    def test_what_is_refused(self):
        for value in NO_EFFECTS:
            refused(self, InvalidEffect, value, heard, value, [1])
            refused(self, InvalidEffect, value, pushed, value, (), [1])
            for function in (delay_of, fresh, span_of):
                refused(self, InvalidEffect, value, function, value)
        for value in NO_SAMPLES + tuple(warped((1, 2))):
            refused(self, InvalidSamples, value, heard, EFFECTS[0], value)
            refused(self, InvalidSamples, value, pushed, EFFECTS[0], fresh(EFFECTS[0]), value)


class ByHand(unittest.TestCase):
    def holds(self, effect, samples, expected):
        self.assertEqual(told(self, heard, effect, samples), expected)
        self.assertEqual(effect_on(effect, samples), expected)

    def test_gain(self):
        self.holds(("gain", 100), (3, -3, 256, -256, 0, 1, -1), (1, -2, 100, -100, 0, 0, -1))
        self.holds(("gain", -1), (1, -1, 256, -257), (-1, 0, -1, 1))
        self.holds(("gain", 1024), (BOUND, -BOUND, 2097151, 2097152, -2097152), (BOUND, -BOUND, 8388604, BOUND, -BOUND))

    def test_wait(self):
        self.holds(("wait", 0), (5, -6, 7), (5, -6, 7))
        self.holds(("wait", 2), (5, -6, 7, 8), (0, 0, 5, -6))
        self.holds(("wait", 200), tuple(range(1, 203)), (0,) * 200 + (1, 2))

    def test_echo(self):
        self.holds(("echo", 1, 128), (100, 0, 0, 0, -100, 0, 0), (100, 50, 25, 12, -94, -47, -24))
        self.holds(("echo", 2, -255), (1, -1, 0, 0, 0, 0), (1, -1, -1, 0, 0, 0))
        self.holds(("echo", 200, 255), (256,) + (0,) * 200, (256,) + (0,) * 199 + (255,))

    def test_echo_goes_on_from_what_is_held(self):
        self.holds(("echo", 1, 255), (BOUND, BOUND, -BOUND), (BOUND, BOUND, -BOUND + BOUND * 255 // 256))
        self.holds(("echo", 1, 255), (-BOUND, -BOUND, 0), (-BOUND, -BOUND, -BOUND * 255 // 256))

    def test_smooth(self):
        self.holds(("smooth", 128), (100, 100, 0, -100, -101), (50, 75, 37, -32, -67))
        self.holds(("smooth", 256), (5, -7, 9), (5, -7, 9))
        self.holds(("smooth", 1), (255, 256, -1, -1, -1000), (0, 1, 0, -1, -5))
        self.holds(("smooth", 256), (BOUND, -BOUND, BOUND), (BOUND, -BOUND, BOUND))

    def test_mix(self):
        self.holds(("mix", (128,)), (3, -3), (1, -2))
        self.holds(("mix", (256, -256)), (10, 4, -5, -5), (10, -6, -9, 0))
        self.holds(("mix", (0,) * 7 + (-1,)), (1,) + (0,) * 8, (0,) * 7 + (-1, 0))
        self.holds(("mix", (256,) * 8), (BOUND, BOUND, -BOUND, -BOUND, -BOUND), (BOUND, BOUND, BOUND, 0, -BOUND))
        self.holds(("mix", (0, 0)), (1, 2), (0, 0))

    def test_crush(self):
        self.holds(("crush", 1), (3, -3, 2, -1, 0), (2, -4, 2, -2, 0))
        self.holds(("crush", 15), (32767, 32768, -1, -32768, -32769, BOUND, -BOUND),
                   (0, 32768, -32768, -32768, -65536, 8355840, -BOUND))

    def test_limit(self):
        self.holds(("limit", 100, 0), (100, 101, -101, -100, 200, -400, 5), (100, 99, -100, -100, 100, -100, 5))
        self.holds(("limit", 1, 0), (1, 2, -3, BOUND, -BOUND), (1, 1, -1, 0, 0))
        self.holds(("limit", BOUND, 0), LOUD, LOUD)
        self.holds(("limit", 8388606, 0), (BOUND, -BOUND), (BOUND * 255 // 256, -BOUND * 255 // 256))

    def test_limit_hears_ahead_and_behind(self):
        self.holds(("limit", 100, 2), (50, 50, 200, 50, 50, 50, 50), (0, 0, 25, 25, 100, 50, 50))
        self.holds(("limit", 100, 1), (400, 200, 10, 10, 10), (0, 100, 100, 10, 10))
        self.holds(("limit", 100, 1), (200, -400, 10, 10), (0, 50, -100, 10))
        self.holds(("limit", 100, 2), (10, -400, 200, 10, 10), (0, 0, 2, -100, 100))

    def test_ahead_32(self):
        row = (64,) * 32 + (256,) + (64,) * 40
        self.holds(("limit", 128, 32), row, (0,) * 32 + (32,) * 32 + (128,) + (64,) * 8)

    def test_two_beyond_the_top(self):
        for one, other in ((300, 600), (600, 300), (-600, 300), (300, -600)):
            self.holds(("limit", 100, 1), (one, other, 0), (0, one * 42 // 256, other * (100 * 256 // abs(other)) // 256))


class Heard(unittest.TestCase):
    def test_as_the_document_tells(self):
        source = random.Random(21)
        for effect in EFFECTS + tuple(some_effect(source) for _ in range(60)):
            for many in (0, 1, 2, 40, 450):
                samples = some_samples(source, many)
                self.assertEqual(told(self, heard, effect, samples), effect_on(effect, samples), effect)

    def test_sizes(self):
        too_many = (0,) * 2001
        for effect in EFFECTS:
            for many in (0, 1, 2000):
                made = heard(effect, (BOUND,) * many)
                self.assertEqual(len(made), many)
                self.assertTrue(all(-BOUND <= sample <= BOUND for sample in made))
            refused(self, InvalidSamples, too_many, heard, effect, too_many)

    def test_delay(self):
        for effect in EFFECTS:
            self.assertEqual(told(self, delay_of, effect), effect[2] if effect[0] == "limit" else 0)
        self.assertEqual(delay_of(("limit", 5, 32)), 32)


def counted(state):
    return sum(1 + counted(member) for member in state) if isinstance(state, tuple) else 0


class Pushed(unittest.TestCase):
    def pushes(self, effect, samples, pieces):
        """What comes of the samples in pieces, each state tried."""
        state = told(self, fresh, effect)
        made = ()
        at = 0
        for many in pieces:
            self.assertTrue(is_plain(state))
            self.assertIs(type(state), tuple)
            self.assertLessEqual(counted(state), 300)
            state, more = told(self, pushed, effect, state, samples[at:at + many])
            self.assertEqual(len(more), len(samples[at:at + many]))
            made += more
            at += many
        return made

    def test_pieces_make_the_whole(self):
        source = random.Random(22)
        for effect in EFFECTS + tuple(some_effect(source) for _ in range(30)):
            for many in (0, 1, 30, 430):
                samples = some_samples(source, many)
                whole = heard(effect, samples)
                self.assertEqual(self.pushes(effect, samples, (many,)), whole)
                self.assertEqual(self.pushes(effect, samples, (0, many, 0)), whole)
                self.assertEqual(self.pushes(effect, samples, (1,) * many), whole)
                pieces = [source.choice((0, 1, 2, 5, 33, 150)) for _ in range(20)]
                self.assertEqual(self.pushes(effect, samples, pieces + [many]), whole)

    def test_a_state_may_be_used_again(self):
        source = random.Random(23)
        for effect in EFFECTS:
            ahead, one, other = (some_samples(source, many) for many in (50, 30, 40))
            state, _ = pushed(effect, fresh(effect), ahead)
            first = pushed(effect, state, one)
            self.assertEqual(pushed(effect, state, other)[1], heard(effect, ahead + other)[50:])
            self.assertEqual(pushed(effect, state, one), first)
            self.assertEqual(first[1], heard(effect, ahead + one)[50:])

    def test_2000_samples(self):
        samples = some_samples(random.Random(24), 2000)
        for effect in EFFECTS:
            self.assertEqual(pushed(effect, fresh(effect), samples)[1], heard(effect, samples))


class Spans(unittest.TestCase):
    def test_of_each_kind(self):
        for effect, span in (
            (("gain", 5), (0, 0)), (("crush", 5), (0, 0)), (("wait", 0), (0, 0)), (("wait", 200), (200, 200)),
            (("mix", (1,)), (0, 0)), (("mix", (0,) * 8), (0, 7)), (("limit", 5, 0), (0, 0)), (("limit", 5, 32), (0, 32)),
            (("echo", 5, 0), (0, None)), (("smooth", 256), (0, None)),
        ):
            self.assertEqual(told(self, span_of, effect), span)

    def test_a_sample_changes_no_others(self):
        source = random.Random(25)
        for effect in EFFECTS + tuple(some_effect(source) for _ in range(20)):
            first, last = span_of(effect)
            samples = some_samples(source, 260)
            at = source.randrange(40)
            made = heard(effect, samples)
            for value in (0, BOUND, -BOUND, 77):
                other = heard(effect, samples[:at] + (value,) + samples[at + 1:])
                for number in range(260):
                    if number < at + first or last is not None and number > at + last:
                        self.assertEqual(made[number], other[number], (effect, at, number))

    def test_spans_are_no_wider_than_asked(self):
        for effect, first, last in ((("mix", (256, 0, 256)), 0, 2), (("limit", 10, 4), 0, 4), (("wait", 7), 7, 7)):
            still = heard(effect, (10,) * 20)
            other = heard(effect, (10,) * 5 + (1000,) + (10,) * 14)
            unlike = [number - 5 for number in range(20) if still[number] != other[number]]
            self.assertEqual((unlike[0], unlike[-1]), (first, last))


if __name__ == "__main__":
    unittest.main()
