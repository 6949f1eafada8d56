"""[24] and [25] The rows, and what is heard of them."""

import random
import unittest

from tests.helpers import ODD, refused, refuses_numbers, told
from tests.meaning import BARS, BOUND, LEVEL, PACES, Meaning, some_project
from trackloom.clips import clip_at
from trackloom.errors import InvalidName, InvalidNumber
from trackloom.hearing import rendered, sample_at
from trackloom.projects import Project
from trackloom.tones import even_tuning, played

POOL = (("ten", (10, -20, 30, -40, 50, -60, 70, -80, 90, -100)), ("top", (32767,) * 600))
TONE = (("saw",), even_tuning(), (2, 3, 200, 5), 2)
NOTES = ((0, 2, 60, 100), (1, 2, 64, 90), (1, 3, 70, 127))
# From sample 0 on each sample of the sound as it is.
TEN = ("clips", (("ten", 0, 10, 0, (1, 1), 256, (0, 0), (0, 0)),))
LOUD = ("clips", tuple(("top", 0, 2000, 0, (0, 1), gain, (0, 0), (0, 0)) for gain in range(1017, 1025)))
SOUND = POOL[0][1]


def project(*nodes, paces=PACES):
    return Project(paces, BARS, POOL, tuple(sorted(nodes)))


def node(name, source=None, effects=(), inputs=(), level=LEVEL, silent=0):
    return (name, source, effects, inputs, level, silent)


class ByHand(unittest.TestCase):
    def sounds(self, one, name, samples):
        """Sees that these are the first samples of the node."""
        many = len(samples)
        self.assertEqual(told(self, rendered, one, name, 0, many), samples)
        for number in range(many):
            self.assertEqual(told(self, sample_at, one, name, number), samples[number])
            self.assertEqual(rendered(one, name, number, number + 1), samples[number:number + 1])
            self.assertEqual(rendered(one, name, number, many), samples[number:])

    def test_no_source(self):
        self.sounds(project(node("a")), "a", (0,) * 20)
        self.sounds(project(node("a", ("clips", ()))), "a", (0,) * 5)
        self.sounds(project(node("a", ("tone", TONE, ()))), "a", (0,) * 5)

    def test_clips(self):
        self.sounds(project(node("a", TEN)), "a", SOUND + (0, 0))
        two = ("clips", (("ten", 1, 3, 0, (1, 1), 256, (0, 0), (0, 0)), ("ten", 2, 9, 9, (-1, 1), -128, (0, 0), (0, 0))))
        self.sounds(project(node("a", two)), "a", (0, 10, -20 + 50, 30 - 45, 40, -35, 30, -25, 20, -15, 10, 0))

    def test_tones(self):
        one = project(node("a", ("tone", TONE, NOTES)))
        self.sounds(one, "a", tuple(played(TONE, NOTES, one.tempo, m) for m in range(60)))
        self.assertNotEqual(sample_at(one, "a", 30), 0)

    def test_effects_one_behind_the_other(self):
        one = project(node("a", TEN, (("wait", 1), ("gain", 128), ("crush", 2))))
        self.sounds(one, "a", (0, 4, -12, 12, -20, 24, -32, 32, -40, 44, -52, 0))
        other = project(node("a", TEN, (("crush", 2), ("gain", 128), ("wait", 1))))
        self.sounds(other, "a", (0, 4, -10, 14, -20, 24, -30, 34, -40, 44, -50, 0))

    def test_gains_of_inputs_are_rounded_down_each(self):
        half = project(node("a", TEN), node("b", None, (), (("a", 25, "now"), ("a", 26, "now"))))
        self.sounds(half, "b", tuple(x * 25 // 256 + x * 26 // 256 for x in SOUND))
        down = project(node("a", TEN), node("b", TEN, (), (("a", -256, "now"),)))
        self.sounds(down, "b", (0,) * 10)
        none = project(node("a", TEN), node("b", TEN, (), (("a", 0, "now"),)))
        self.sounds(none, "b", SOUND)
        less = project(node("a", TEN), node("b", None, (), (("a", -1, "now"),)))
        self.sounds(less, "b", (-1, 0, -1, 0, -1, 0, -1, 0, -1, 0, 0))

    def test_late_inputs(self):
        one = project(node("a", TEN), node("b", None, (), (("a", 256, "late"),)))
        self.sounds(one, "b", (0,) + SOUND)
        itself = project(node("a", ("clips", (("ten", 0, 1, 9, (1, 1), 256, (0, 0), (0, 0)),)), (), (("a", 128, "late"),)))
        self.sounds(itself, "a", (-100, -50, -25, -13, -7, -4, -2, -1, -1))
        each = project(node("a", ("clips", (("ten", 0, 1, 4, (1, 1), 256, (0, 0), (0, 0)),)), (), (("b", 256, "late"),)),
                       node("b", None, (), (("a", -256, "late"),)))
        self.sounds(each, "a", (50, 0, -50, 0, 50, 0, -50))
        self.sounds(each, "b", (0, -50, 0, 50, 0, -50, 0))

    def test_late_inputs_are_one_late_whatever_their_arrival(self):
        one = project(node("a", TEN, (("limit", BOUND, 3),)), node("b", None, (), (("a", 256, "late"),)))
        self.sounds(one, "b", (0,) * 4 + SOUND)
        both = project(node("a", TEN, (("limit", BOUND, 3),)), node("b", TEN, (), (("a", 256, "late"),)))
        self.sounds(both, "b", (10, -20, 30, -40, 50 + 10, -60 - 20, 70 + 30))

    def test_now_inputs_line_up_with_the_latest(self):
        one = project(node("a", TEN), node("b", TEN, (("limit", BOUND, 2),)), node("c", TEN, (("limit", BOUND, 3),)),
                      node("d", TEN, (("limit", BOUND, 1),), (("a", 256, "now"), ("b", 256, "now"), ("c", 256, "now"))))
        self.sounds(one, "b", (0, 0) + SOUND)
        self.sounds(one, "d", (0,) * 4 + tuple(4 * x for x in SOUND) + (0,))

    def test_now_and_late_of_one(self):
        one = project(node("a", TEN, (("limit", BOUND, 1),)), node("b", TEN, (), (("a", 256, "late"), ("a", 512, "now"))))
        self.sounds(one, "b", (0, 3 * 10, -3 * 20 + 10, 3 * 30 - 20, -3 * 40 + 30))

    def test_silent_nodes(self):
        one = project(node("a", TEN, silent=1), node("b", TEN, (), (("a", 256, "now"), ("b", 256, "late")), silent=1),
                      node("c", TEN, (), (("a", 256, "now"), ("b", 256, "late"))))
        self.sounds(one, "a", (0,) * 12)
        self.sounds(one, "b", (0,) * 12)
        self.sounds(one, "c", SOUND)

    def test_silent_nodes_delay_others(self):
        one = project(node("a", TEN, (("limit", 1, 5),), silent=1), node("b", TEN, (), (("a", 256, "now"),)))
        self.sounds(one, "b", (0,) * 5 + SOUND)

    def test_sums_are_held(self):
        inputs = tuple(("a", gain, "now") for gain in (1022, 1023, 1024))
        one = project(node("a", LOUD), node("b", None, (("gain", 128),), inputs),
                      node("c", None, (("gain", 128),), (("b", -1024, "now"),)),
                      node("d", None, (), tuple(("b", gain, "late") for gain in (-1024, -1023, 1024))))
        a = sum(32767 * gain // 256 for gain in range(1017, 1025))
        self.assertGreater(a * 11, BOUND)
        self.sounds(one, "a", (a,) * 3)
        self.sounds(one, "b", (BOUND // 2,) * 3)
        self.sounds(one, "c", (-BOUND * 128 // 256,) * 3)
        # The whole sum is held, not the sum at each input: that would end above 0.
        self.sounds(one, "d", (0, -BOUND, -BOUND))

    def test_levels_are_held(self):
        one = project(node("a", LOUD, (("gain", 1024),), (), ((0, 1024),)), node("b", LOUD, (("gain", 1024),), (), ((0, -1024),)))
        self.sounds(one, "a", (BOUND,) * 3)
        self.sounds(one, "b", (-BOUND,) * 3)

    def test_levels_at_ticks(self):
        paces = ((0, 2, "ramp"), (2, 4, "flat"))
        level = ((0, 256), (1, 0), (2, -256), (3, 512))
        one = project(node("a", LOUD, (), (), level), paces=paces)
        a = sum(32767 * gain // 256 for gain in range(1017, 1025))
        # The ticks last 2, 3, 4, 4, .. samples.
        self.sounds(one, "a", (a,) * 2 + (0,) * 3 + (-a,) * 4 + (2 * a,) * 6)

    def test_levels_between_points_are_rounded_down(self):
        one = project(node("a", TEN, (), (), ((1, 255), (4, -255))), paces=((0, 1, "flat"),))
        values = (255, 255, 85, -85, -255, -255)
        self.sounds(one, "a", tuple(x * value // 256 for x, value in zip(SOUND, values)))

    def test_levels_are_read_less_the_arrival(self):
        level = ((0, 0), (3, 768))
        paces = ((0, 1, "flat"),)
        late = project(node("a", TEN, (("limit", BOUND, 2),), (), level), paces=paces)
        self.sounds(late, "a", (0, 0, 0, -20, 60, -120, 150))
        heard = project(node("a", TEN, (("limit", BOUND, 2),)), node("b", TEN, (("limit", BOUND, 1),), (("a", 256, "now"),), level),
                        paces=paces)
        self.sounds(heard, "b", (0, 0, 0, 0, -40, 120, -240, 300))

    def test_levels_ahead_of_the_arrival(self):
        # What comes late sounds at once, with the level of sample 0 as long as the node itself has not arrived.
        level = ((0, 512), (1, 0))
        one = project(node("a", LOUD, (("limit", 1, 4),), silent=1),
                      node("b", TEN), node("c", None, (), (("a", 0, "now"), ("b", 256, "late")), level), paces=((0, 1, "flat"),))
        self.sounds(one, "c", (0, 20, -40, 60, -80, 0, 0))

    def test_samples_far_on(self):
        clip = ("ten", 995, 10, 0, (1, 1), 256, (0, 0), (0, 0))
        one = project(node("a", ("clips", (clip,))), node("b", None, (("wait", 2),), (("a", 256, "now"),)))
        self.assertEqual(told(self, rendered, one, "a", 994, 1000), (0, 10, -20, 30, -40, 50))
        self.assertEqual(told(self, rendered, one, "b", 994, 1000), (0, 0, 0, 10, -20, 30))
        self.assertEqual(told(self, sample_at, one, "a", 999), 50)
        self.assertEqual(told(self, sample_at, one, "b", 999), 30)


class AsTheDocumentTells(unittest.TestCase):
    def test_projects_made_at_random(self):
        source = random.Random(41)
        sounding = 0
        for _ in range(60):
            one = some_project(source)
            many = source.choice((1, 40, 120, 260))
            for name, samples in Meaning(one).rows(many):
                self.assertEqual(rendered(one, name, 0, many), samples)
                first = source.randrange(many + 1)
                self.assertEqual(rendered(one, name, first, many), samples[first:])
                number = source.randrange(many)
                self.assertEqual(sample_at(one, name, number), samples[number])
                sounding += any(samples)
        self.assertGreater(sounding, 50)

    def test_up_to_the_last_sample(self):
        source = random.Random(42)
        for _ in range(3):
            one = some_project(source, 5)
            for name, samples in Meaning(one).rows(1000):
                self.assertEqual(rendered(one, name, 0, 600) + rendered(one, name, 600, 1000), samples)
                self.assertEqual(rendered(one, name, 400, 1000), samples[400:])
                self.assertEqual(sample_at(one, name, 999), samples[999])

    def test_sources_hear_clips_and_tones_as_they_are(self):
        source = random.Random(43)
        for _ in range(40):
            one = some_project(source, 1)
            name, heard, _, _, _, _ = one.nodes[0]
            alone = Project(one.paces, one.bars, one.pool, ((name, heard, (), (), LEVEL, 0),))
            for number in range(0, 100, 9):
                if heard is None:
                    value = 0
                elif heard[0] == "tone":
                    value = played(heard[1], heard[2], one.tempo, number)
                else:
                    value = sum(clip_at(one.pool, clip, number) for clip in heard[1])
                self.assertEqual(sample_at(alone, name, number), value)

    def test_what_is_not_heard_changes_nothing(self):
        source = random.Random(44)
        for _ in range(20):
            one = some_project(source, 4)
            names = [each[0] for each in one.nodes]
            more = tuple(sorted(one.nodes + (node("zz", TEN, (), ((names[0], 256, "now"), (names[1], 9, "late"))),)))
            other = Project(one.paces, one.bars, one.pool, more)
            for name in names:
                self.assertEqual(rendered(one, name, 0, 90), rendered(other, name, 0, 90))


class Refused(unittest.TestCase):
    ONE = project(node("a", TEN), node("b", None, (), (("a", 256, "now"),)))

    def test_names(self):
        for value in ODD + ("c", "A", "", 0, ("a",), ["a"], ("a", "b"), self.ONE.nodes[0]):
            refused(self, InvalidName, value, sample_at, self.ONE, value, -1)
            refused(self, InvalidName, value, rendered, self.ONE, value, -1, -1)

    def test_numbers(self):
        refuses_numbers(self, InvalidNumber, sample_at, (self.ONE, "b", 0), 2, 0, 999)
        for first, low, high in ((0, 0, 600), (5, 5, 605), (399, 399, 999), (400, 400, 1000), (401, 401, 1000), (999, 999, 1000)):
            refuses_numbers(self, InvalidNumber, rendered, (self.ONE, "b", first, 0), 3, low, high)

    def test_first_is_told_ahead_of_last(self):
        for first in ODD + (-1, 1000):
            refused(self, InvalidNumber, first, rendered, self.ONE, "a", first, [])
        refused(self, InvalidNumber, 1000, rendered, self.ONE, "a", 1000, 1000)
        refused(self, InvalidNumber, 399, rendered, self.ONE, "a", 400, 399)

    def test_as_many_as_asked(self):
        self.assertEqual(told(self, rendered, self.ONE, "b", 7, 7), ())
        self.assertEqual(told(self, rendered, self.ONE, "b", 0, 0), ())
        self.assertEqual(told(self, rendered, self.ONE, "b", 999, 999), ())
        self.assertEqual(len(told(self, rendered, self.ONE, "b", 0, 600)), 600)
        self.assertEqual(len(told(self, rendered, self.ONE, "b", 400, 1000)), 600)
        refused(self, InvalidNumber, 601, rendered, self.ONE, "b", 0, 601)
        refused(self, InvalidNumber, 1001, rendered, self.ONE, "b", 999, 1001)


class LongChain(unittest.TestCase):
    def test_twelve_nodes_with_six_effects_each(self):
        effects = (("limit", 9000, 2), ("echo", 200, -200), ("mix", (9, -8, 7, 6, 5, 4, 3, 250)), ("wait", 1),
                   ("smooth", 200), ("limit", 100000, 1))
        part = tuple(sorted((k % 20, 40 + k, 30 + k // 2, 100) for k in range(100)))
        names = "abcdefghijkl"
        tone = (("noise", 5), even_tuning(), (10, 10, 200, 2000), 8)
        nodes = [node(name, ("tone", tone, part), effects, tuple((other, 200, "now") for other in names[max(at - 1, 0):at]))
                 for at, name in enumerate(names)]
        one = project(*nodes)
        samples = rendered(one, "l", 0, 600) + rendered(one, "l", 600, 1000)
        for number in (0, 35, 36, 37, 599, 600, 999):
            self.assertEqual(sample_at(one, "l", number), samples[number])
        short = Meaning(one)
        for number in range(140):
            self.assertEqual(short.out("l", number), samples[number])
        self.assertTrue(any(samples[:140]))


if __name__ == "__main__":
    unittest.main()
