"""[36] Deeds."""

import random
import unittest

from tests.helpers import ODD, PROJECT, TEMPO, nested, refused, shown, undefined, warped
from tests.histories import done_by_the_words, same, some_deed
from tests.meaning import BARS, LEVEL, PACES, POOL, some_project
from trackloom.clips import merged, split
from trackloom.deeds import done, is_deed
from trackloom.errors import InvalidDeed
from trackloom.projects import Project, node_of
from trackloom.tones import even_tuning

NOTE = (0, 4, 60, 100)
CLIP = ("drum", 5, 10, 0, (1, 1), 256, (0, 0), (0, 0))
TONE = (("saw",), even_tuning(), (0, 0, 256, 0), 2)
NODE = ("lead", ("tone", TONE, (NOTE,)), (("gain", 256),), (("bass", 256, "now"),), LEVEL, 0)
DEEDS = (
    ("paces", ((0, 10, "ramp"), (5, 3, "flat"))), ("bars", ((0, 4), (3, 5))), ("sound", "drum", (1, -2, 3)), ("sound", "x", ()), ("unsound", "drum"),
    ("node", NODE), ("unnode", "lead"), ("note", "lead", NOTE), ("unnote", "lead", NOTE), ("clip", "lead", CLIP), ("unclip", "lead", CLIP),
    ("split", "lead", CLIP, 5), ("merge", "lead", CLIP, CLIP), ("shift", "lead", -5), ("raise", "lead", 5), ("link", "lead", ("lead", -9, "late")),
    ("unlink", "lead", ("lead", 256, "now")), ("effects", "lead", (("wait", 3), ("mix", (1, 2)))), ("effects", "lead", ()),
    ("bend", "lead", 5, -7), ("silent", "lead", 1),
)
AT_BOUNDS = (
    (lambda n: ("split", "a", CLIP, n), 1, 1999), (lambda n: ("shift", "a", n), -20000, 20000), (lambda n: ("raise", "a", n), -127, 127),
    (lambda n: ("bend", "a", n, 0), 0, 2000), (lambda n: ("bend", "a", 0, n), -1024, 1024), (lambda n: ("silent", "a", n), 0, 1),
)


class Forms(unittest.TestCase):
    def test_each_kind(self):
        self.assertEqual(len({deed[0] for deed in DEEDS}), 19)
        for deed in DEEDS:
            self.assertIs(is_deed(deed), True, deed)
            self.assertIs(is_deed(value=deed), True, deed)

    def test_one_place_wrong(self):
        for deed in DEEDS:
            for value in warped(deed):
                # A node may have no source.
                fine = value == ("node", NODE[:1] + (None,) + NODE[2:])
                self.assertIs(is_deed(value), fine, value)

    def test_a_member_too_few_or_too_many(self):
        for deed in DEEDS:
            for value in (deed[:-1], deed + (deed[-1],), deed + (0,), deed[1:], deed[:1], (deed,), (deed[0], deed[1:])):
                self.assertIs(is_deed(value), False, value)

    def test_bounds(self):
        for made, low, high in AT_BOUNDS:
            for number, fine in ((low, True), (high, True), (low - 1, False), (high + 1, False), (10 ** 11, False)):
                self.assertIs(is_deed(made(number)), fine, made(number))

    def test_bools(self):
        for deed in (
            ("silent", "a", True), ("silent", "a", False), ("bend", "a", True, 0), ("bend", "a", 0, True), ("shift", "a", True), ("raise", "a", False),
            ("split", "a", CLIP, True), ("sound", "a", (1, True)), ("note", "a", (0, 1, True, 1)), ("paces", ((0, True, "flat"),)),
            ("node", NODE[:5] + (False,)), ("link", "a", ("a", True, "now")), ("clip", "a", CLIP[:2] + (True,) + CLIP[3:]), ("bars", ((False, 4),)),
        ):
            self.assertIs(is_deed(deed), False, deed)

    def test_names(self):
        for deed in DEEDS:
            if isinstance(deed[1], str):
                for name in ("", "abcdefghi", "A", "a1", "a b", "\u00e9", 0, None, ("a",), b"a", True):
                    self.assertIs(is_deed(deed[:1] + (name,) + deed[2:]), False, name)
                for name in ("a", "abcdefgh"):
                    self.assertIs(is_deed(deed[:1] + (name,) + deed[2:]), True, name)

    def test_any_value(self):
        for value in ODD + (
            (), ("undo", (1, "ann", 0)), ("redo", (1, "ann", 0)), ("none", "a"), (None, "a"), (["note"], "a", NOTE), (("note",), "a", NOTE), ({}, "a"),
            (0, "a"), ("Note", "a", NOTE), ("note ", "a", NOTE), (TEMPO, "a"), (nested(tuple, 59), "a"), (True, "a"), ["note", "a", NOTE], "note",
        ):
            self.assertIs(is_deed(value), False, value)
            refused(self, InvalidDeed, value, done, PROJECT, value)

    def test_only_the_form_is_asked(self):
        for deed in (
            ("unnode", "nobody"), ("split", "a", CLIP, 10), ("split", "a", CLIP, 1999), ("merge", "a", CLIP, CLIP), ("shift", "a", 20000),
            ("link", "a", ("nobody", 0, "now")), ("node", ("a", None, (), (("nobody", 1, "now"),) + (("zz", 1, "now"),), LEVEL, 0)),
        ):
            self.assertIs(is_deed(deed), True, deed)

    def test_sizes(self):
        six = (("wait", 0),) * 6
        self.assertIs(is_deed(("effects", "a", six)), True)
        self.assertIs(is_deed(("effects", "a", six + (("wait", 0),))), False)
        self.assertIs(is_deed(("effects", "a", [("wait", 0)])), False)
        self.assertIs(is_deed(("sound", "a", (0,) * 600)), True)
        self.assertIs(is_deed(("sound", "a", (0,) * 601)), False)


HALF = ("drum", 15, 10, 10, (1, 1), 256, (0, 0), (0, 0))
CLIPPED = ("beat", ("clips", (CLIP, HALF)), (), (("lead", 256, "late"),), LEVEL, 0)
LEAD = ("lead", ("tone", TONE, (NOTE, (3, 2, 70, 50))), (("gain", 128),), (("beat", 256, "now"), ("none", 9, "late")), ((2, 5), (9, -9)), 0)
NONE = ("none", None, (), (), LEVEL, 1)
EMPTY = ("rest", ("clips", ()), (), (), LEVEL, 0)
STILL = ("still", ("tone", TONE, ()), (), (), LEVEL, 0)
ONE = Project(PACES, BARS, POOL, (CLIPPED, LEAD, NONE, EMPTY, STILL))


class Done(unittest.TestCase):
    def holds(self, deed, paces=None, bars=None, pool=None, before=ONE, **nodes):
        """Sees that the deed makes just these changes."""
        kept = shown((before, deed))
        made = done(before, deed)
        named = {node[0]: node for node in before.nodes}
        named.update(nodes)
        expected = Project(paces or before.paces, bars or before.bars, before.pool if pool is None else pool,
                           tuple(named[name] for name in sorted(named) if named[name]))
        self.assertTrue(same(made, expected), deed)
        self.assertIs(type(made), Project)
        self.assertTrue(same(done(project=before, deed=deed), expected))
        self.assertTrue(same(done_by_the_words(before, deed), expected))
        self.assertEqual(shown((before, deed)), kept)
        return made

    def changed(self, node, place, value):
        return node[:place] + (value,) + node[place + 1:]

    def test_paces_and_bars(self):
        self.holds(("paces", ((0, 3, "ramp"), (9, 1, "flat"))), paces=((0, 3, "ramp"), (9, 1, "flat")))
        self.holds(("bars", ((0, 9),)), bars=((0, 9),))
        self.holds(("paces", PACES))
        self.holds(("bars", BARS))

    def test_sounds(self):
        drum, hum = POOL
        self.holds(("sound", "drum", (1, 2)), pool=(("drum", (1, 2)), hum))
        self.holds(("sound", "a", ()), pool=(("a", ()), drum, hum))
        self.holds(("sound", "zz", (5,)), pool=(drum, hum, ("zz", (5,))))
        self.holds(("sound",) + hum)
        self.holds(("unsound", "drum"), pool=(hum,))
        self.holds(("unsound", "hum"), pool=(drum,))

    def test_nodes(self):
        self.holds(("node", NONE[:5] + (0,)), none=NONE[:5] + (0,))
        self.holds(("node", ("a",) + NONE[1:]), a=("a",) + NONE[1:])
        self.holds(("node", ("zz", None, (), (("zz", 1, "late"),), LEVEL, 0)), zz=("zz", None, (), (("zz", 1, "late"),), LEVEL, 0))
        self.holds(("node", LEAD))
        self.holds(("unnode", "rest"), rest=None)
        itself = Project(PACES, BARS, (), (("a", None, (), (("a", 1, "late"),), LEVEL, 0), NONE))
        self.holds(("unnode", "a"), before=itself, a=None)

    def test_notes(self):
        part = LEAD[1][2]
        self.holds(("note", "lead", (1, 1, 1, 1)), lead=self.changed(LEAD, 1, ("tone", TONE, (part[0], (1, 1, 1, 1), part[1]))))
        self.holds(("note", "lead", (0, 4, 60, 99)), lead=self.changed(LEAD, 1, ("tone", TONE, ((0, 4, 60, 99),) + part)))
        self.holds(("note", "still", NOTE), still=self.changed(STILL, 1, ("tone", TONE, (NOTE,))))
        self.holds(("unnote", "lead", NOTE), lead=self.changed(LEAD, 1, ("tone", TONE, part[1:])))
        alone = self.holds(("unnote", "lead", part[1]), lead=self.changed(LEAD, 1, ("tone", TONE, part[:1])))
        self.holds(("unnote", "lead", NOTE), before=alone, lead=self.changed(LEAD, 1, ("tone", TONE, ())))

    def test_clips(self):
        other = ("a", 0, 1, 0, (1, 1), 1, (0, 0), (0, 0))
        self.holds(("clip", "beat", other), beat=self.changed(CLIPPED, 1, ("clips", (other, CLIP, HALF))))
        self.holds(("clip", "rest", other), rest=self.changed(EMPTY, 1, ("clips", (other,))))
        self.holds(("unclip", "beat", CLIP), beat=self.changed(CLIPPED, 1, ("clips", (HALF,))))
        one, two = split(CLIP, 4)
        self.holds(("split", "beat", CLIP, 4), beat=self.changed(CLIPPED, 1, ("clips", (one, two, HALF))))
        whole = merged(CLIP, HALF)
        made = self.holds(("merge", "beat", CLIP, HALF), beat=self.changed(CLIPPED, 1, ("clips", (whole,))))
        self.holds(("split", "beat", whole, 10), before=made, beat=CLIPPED)

    def test_shift_and_raise(self):
        moved_part = tuple((tick + 7, length, pitch, force) for tick, length, pitch, force in LEAD[1][2])
        self.holds(("shift", "lead", 7), lead=self.changed(LEAD, 1, ("tone", TONE, moved_part)))
        clips = tuple(clip[:1] + (clip[1] - 5,) + clip[2:] for clip in (CLIP, HALF))
        self.holds(("shift", "beat", -5), beat=self.changed(CLIPPED, 1, ("clips", clips)))
        self.holds(("shift", "rest", 20000))
        self.holds(("shift", "still", -2000))
        self.holds(("shift", "beat", 0))
        raised_part = tuple((tick, length, pitch - 60, force) for tick, length, pitch, force in LEAD[1][2])
        self.holds(("raise", "lead", -60), lead=self.changed(LEAD, 1, ("tone", TONE, raised_part)))
        self.holds(("raise", "still", 127))

    def test_inputs(self):
        self.holds(("link", "none", ("lead", 0, "now")), none=self.changed(NONE, 3, (("lead", 0, "now"),)))
        self.holds(("link", "lead", ("beat", 255, "now")), lead=self.changed(LEAD, 3, (("beat", 255, "now"),) + LEAD[3]))
        self.holds(("link", "lead", ("lead", 1, "late")), lead=self.changed(LEAD, 3, (LEAD[3][0], ("lead", 1, "late"), LEAD[3][1])))
        self.holds(("unlink", "lead", LEAD[3][0]), lead=self.changed(LEAD, 3, LEAD[3][1:]))

    def test_effects_levels_and_silence(self):
        self.holds(("effects", "lead", ()), lead=self.changed(LEAD, 2, ()))
        self.holds(("effects", "none", (("wait", 1),) * 6), none=self.changed(NONE, 2, (("wait", 1),) * 6))
        self.holds(("bend", "lead", 2, 7), lead=self.changed(LEAD, 4, ((2, 7), (9, -9))))
        self.holds(("bend", "lead", 5, 7), lead=self.changed(LEAD, 4, ((2, 5), (5, 7), (9, -9))))
        self.holds(("silent", "lead", 1), lead=self.changed(LEAD, 5, 1))
        self.holds(("silent", "none", 1))

    def test_a_project_done_to_goes_on(self):
        made = done(done(ONE, ("paces", ((0, 1, "flat"),))), ("bars", ((0, 1),)))
        self.assertTrue(same(made, Project(((0, 1, "flat"),), ((0, 1),), POOL, ONE.nodes)))
        self.assertEqual(node_of(made, "lead"), LEAD)


class Void(unittest.TestCase):
    def void(self, deed, before=ONE):
        self.assertIs(is_deed(deed), True, deed)
        kept = shown((before, deed))
        undefined(self, "void", done, before, deed)
        self.assertIsNone(done_by_the_words(before, deed))
        self.assertEqual(shown((before, deed)), kept)

    def test_no_node_or_sound_of_the_name(self):
        for deed in DEEDS:
            if deed[0] not in ("paces", "bars", "sound", "node"):
                self.void(deed[:1] + ("nobody",) + deed[2:])
        self.void(("unsound", "lead"))
        self.void(("unnode", "drum"))

    def test_no_tone_or_clips(self):
        for name in ("beat", "rest", "none"):
            for deed in (("note", name, (1, 1, 1, 1)), ("unnote", name, NOTE), ("raise", name, 1)):
                self.void(deed)
        for name in ("lead", "still", "none"):
            for deed in (("clip", name, CLIP), ("unclip", name, CLIP), ("split", name, CLIP, 1), ("merge", name, CLIP, HALF)):
                self.void(deed)
        self.void(("shift", "none", 0))

    def test_not_there(self):
        other = CLIP[:5] + (255,) + CLIP[6:]
        for deed in (
            ("unnote", "lead", (0, 4, 60, 99)), ("unnote", "still", NOTE), ("unclip", "beat", other), ("unclip", "rest", CLIP), ("split", "beat", other, 5),
            ("merge", "beat", CLIP, other), ("merge", "beat", other, HALF), ("merge", "rest", CLIP, HALF), ("unlink", "lead", ("beat", 255, "now")),
            ("unlink", "none", ("beat", 256, "now")), ("merge", "beat", *split(CLIP, 5)),
        ):
            self.void(deed)

    def test_there_already(self):
        self.void(("note", "lead", NOTE))
        self.void(("clip", "beat", HALF))
        self.void(("link", "lead", LEAD[3][0]))
        for many in (4, 9):
            for half in split(CLIP, many):
                before = done(ONE, ("clip", "beat", half))
                self.void(("split", "beat", CLIP, many), before)
        self.void(("merge", "beat", CLIP, HALF), done(ONE, ("clip", "beat", merged(CLIP, HALF))))

    def test_what_functions_refuse(self):
        for deed in (
            ("split", "beat", CLIP, 10), ("split", "beat", CLIP, 1999), ("merge", "beat", HALF, CLIP), ("merge", "beat", CLIP, CLIP),
            ("shift", "lead", -1), ("shift", "lead", 1998), ("shift", "lead", 2001), ("shift", "still", 2001), ("shift", "still", -2001),
            ("shift", "beat", -6), ("shift", "beat", 19986), ("raise", "lead", 58), ("raise", "lead", -61), ("raise", "lead", 127),
        ):
            self.void(deed)
        far = ("drum", 19999, 9, 99990, (8, 1), 256, (0, 0), (0, 0))
        before = done(ONE, ("clip", "rest", far))
        self.void(("split", "rest", far, 2), before)
        done(before, ("shift", "rest", 1))
        self.void(("shift", "rest", 2), before)
        full = tuple((tick, 5) for tick in range(40))
        before = done(ONE, ("node", LEAD[:4] + (full, 0)))
        self.void(("bend", "lead", 40, 5), before)
        self.assertTrue(same(done(before, ("bend", "lead", 39, 7)), done_by_the_words(before, ("bend", "lead", 39, 7))))

    def test_too_many(self):
        part = tuple((tick, 1, 1, 1) for tick in range(100))
        before = done(ONE, ("node", LEAD[:1] + (("tone", TONE, part),) + LEAD[2:]))
        self.void(("note", "lead", (0, 1, 1, 2)), before)
        clips = tuple(CLIP[:1] + (10 * at,) + CLIP[2:] for at in range(8))
        before = done(ONE, ("node", EMPTY[:1] + (("clips", clips),) + EMPTY[2:]))
        self.void(("clip", "rest", CLIP), before)
        self.void(("split", "rest", clips[0], 5), before)
        self.assertEqual(len(node_of(done(before, ("unclip", "rest", clips[0])), "rest")[1][1]), 7)
        inputs = tuple(("none", gain, "now") for gain in range(6))
        before = done(ONE, ("node", EMPTY[:3] + (inputs,) + EMPTY[4:]))
        self.void(("link", "rest", ("none", 7, "now")), before)
        nodes = tuple((name,) + NONE[1:] for name in "abcdefghijkl")
        before = Project(PACES, BARS, tuple((name, ()) for name in "abcdefghijkl"), nodes)
        self.void(("node", NONE), before)
        self.void(("sound", "none", ()), before)
        done(before, ("node", ("a",) + LEAD[1:3] + ((),) + LEAD[4:]))
        done(before, ("sound", "a", (1,)))

    def test_rings_and_inputs_without_a_node(self):
        self.void(("link", "beat", ("lead", 0, "now")))
        self.void(("link", "none", ("none", 0, "now")))
        self.void(("node", CLIPPED[:3] + ((("lead", 1, "now"),),) + CLIPPED[4:]))
        self.void(("node", ("zz",) + NONE[1:3] + ((("zz", 1, "now"),),) + NONE[4:]))
        self.void(("link", "beat", ("nobody", 0, "late")))
        self.void(("node", ("zz",) + NONE[1:3] + ((("nobody", 1, "late"),),) + NONE[4:]))
        self.void(("unnode", "beat"))
        self.void(("unnode", "lead"))
        self.void(("unnode", "none"))

    def test_the_last_node(self):
        self.void(("unnode", "a"), PROJECT)
        itself = Project(PACES, BARS, (), (("a", None, (), (("a", 1, "late"),), LEVEL, 0),))
        self.void(("unnode", "a"), itself)


class Drawn(unittest.TestCase):
    def test_rows_of_deeds(self):
        source = random.Random(371)
        words = {}
        for _ in range(120):
            project = some_project(source)
            for _ in range(30):
                deed = some_deed(source, project)
                expected = done_by_the_words(project, deed)
                if expected is None:
                    undefined(self, "void", done, project, deed)
                else:
                    made = done(project, deed)
                    self.assertTrue(same(made, expected))
                    project = made
                words.setdefault(deed[0], []).append(expected is None)
        self.assertEqual(len(words), 19)
        self.assertTrue(all(not all(voids) for voids in words.values()), words)


if __name__ == "__main__":
    unittest.main()
