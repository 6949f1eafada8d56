"""[29] Things, and the makers of a sample."""

import random
import unittest

from tests.helpers import ODD, is_plain, refused, refuses_numbers, told, warped
from tests.meaning import BARS, BOUND, LEVEL, PACES, POOL, Meaning, some_project
from trackloom.errors import InvalidName, InvalidNumber, InvalidValue
from trackloom.hearing import rendered, sample_at
from trackloom.making import makers, things, without
from trackloom.pacing import sample_of
from trackloom.projects import Project
from trackloom.tones import even_tuning

TONE = (("saw",), even_tuning(), (0, 0, 256, 5), 1)
# By PACES a tick lasts 10 samples, so this one is alive from 10 up to, and without, 35.
NOTE = (1, 2, 60, 100)
CLIP = ("drum", 7, 3, 0, (1, 1), 256, (0, 0), (0, 0))


def clips(*ats):
    """A source with clips that begin there, each of three samples."""
    return ("clips", tuple((CLIP[0], at) + CLIP[2:] for at in ats))


def node(name, *inputs, source=None, effects=(), level=LEVEL, silent=0):
    """A node that hears these at once, those with an asterisk late."""
    heard = tuple(sorted((other.strip("*"), 256, "late" if "*" in other else "now") for other in inputs))
    return (name, source, effects, heard, level, silent)


def project(*nodes, paces=PACES, pool=POOL):
    return Project(paces, BARS, pool, tuple(sorted(nodes)))


def clips_of(name, *ats):
    """The things of such clips of the node of this name."""
    return tuple((name, "clip", (CLIP[0], at) + CLIP[2:]) for at in ats)


SEVERAL = project(
    node("a", source=clips(2, 9)), node("b", source=("tone", TONE, (NOTE, (4, 1, 60, 9)))), node("c"),
    node("d", source=clips()), node("e", "a", source=("tone", TONE, ())), node("f", source=clips(0), silent=1),
)
ALL = clips_of("a", 2, 9) + (("b", "note", NOTE), ("b", "note", (4, 1, 60, 9))) + clips_of("f", 0)


class Things(unittest.TestCase):
    def test_of_several_nodes(self):
        self.assertEqual(told(self, things, SEVERAL), ALL)
        self.assertEqual(told(self, things, project(node("a"))), ())

    def test_ascending_and_whole(self):
        source = random.Random(71)
        for _ in range(60):
            one = some_project(source)
            known = []
            for name, heard, _, _, _, _ in one.nodes:
                if heard is not None and heard[0] == "tone":
                    known += [(name, "note", note) for note in heard[2]]
                elif heard is not None:
                    known += [(name, "clip", clip) for clip in heard[1]]
            self.assertEqual(told(self, things, one), tuple(sorted(known)))


class Without(unittest.TestCase):
    def test_none_some_and_all(self):
        self.assertEqual(without(SEVERAL, ()), SEVERAL)
        empty = without(project=SEVERAL, some=ALL)
        self.assertEqual(things(empty), ())
        self.assertEqual([each[1] for each in empty.nodes], [
            ("clips", ()), ("tone", TONE, ()), None, ("clips", ()), ("tone", TONE, ()), ("clips", ()),
        ])
        some = without(SEVERAL, (ALL[0], ALL[3]))
        self.assertEqual(things(some), (ALL[1], ALL[2], ALL[4]))
        self.assertEqual(some.nodes[0], node("a", source=clips(9)))
        self.assertEqual(some.nodes[1], node("b", source=("tone", TONE, (NOTE,))))
        self.assertEqual(some.nodes[2:], SEVERAL.nodes[2:])
        for one in (empty, some):
            self.assertIs(type(one), Project)
            self.assertEqual((one.paces, one.bars, one.pool), (PACES, BARS, POOL))
            self.assertTrue(is_plain(one.nodes))
        self.assertEqual(things(SEVERAL), ALL)

    def test_equal_things_of_two_nodes(self):
        one = project(node("a", source=clips(1, 2)), node("b", source=clips(1, 2)))
        self.assertEqual(things(without(one, clips_of("a", 1) + clips_of("b", 2))), clips_of("a", 2) + clips_of("b", 1))

    def test_at_random(self):
        source = random.Random(72)
        for _ in range(60):
            one = some_project(source)
            known = things(one)
            some = tuple(thing for thing in known if source.randrange(2))
            self.assertEqual(things(without(one, some)), tuple(thing for thing in known if thing not in some))

    def test_refused(self):
        for value in ODD + (
            ALL[::-1], ALL[:1] * 2, ALL + ALL[-1:], list(ALL), ALL[0], (ALL[0], None), ((),), (("a", "clip"),), ("a",),
            (("b",) + ALL[0][1:],), (("a", "note", NOTE),), (("a", "note", ALL[0][2]),), (("b", "clip", NOTE),),
            (("b", "note", (1, 2, 60, 99)),), (("z", "note", NOTE),), (("b", "note", list(NOTE)),), (["b", "note", NOTE],),
            (("b", "note", (True, 2, 60, 100)),), (("b", "note", NOTE, 0),), ((0, "note", NOTE),), (("b", 0, NOTE),),
            (("b", "notes", NOTE),), 0, (ALL[2], ALL[0]), (("a", "clip", CLIP),), (SEVERAL,), ALL + (("z", "note", NOTE),),
        ):
            refused(self, InvalidValue, value, without, SEVERAL, value)
        for value in warped(ALL):
            refused(self, InvalidValue, value, without, SEVERAL, value)

    def test_bools_are_no_numbers(self):
        one = project(node("a", source=("tone", TONE, ((0, 1, 1, 1),))))
        for note in ((False, 1, 1, 1), (0, True, 1, 1), (0, 1, True, 1), (0, 1, 1, True)):
            value = (("a", "note", note),)
            refused(self, InvalidValue, value, without, one, value)
        self.assertEqual(things(without(one, (("a", "note", (0, 1, 1, 1)),))), ())


def expected_makers(one, name, number):
    """The makers as the document tells them, one call of it for each sample asked."""
    meaning = Meaning(one)
    found, asked, seen, left = set(), set(), set(), [(name, number)]
    while left:
        name, n = left.pop()
        if n < 0 or (name, n) in asked:
            continue
        asked.add((name, n))
        _, source, effects, inputs, _, silent = meaning.nodes[name]
        if silent:
            continue
        first = last = 0
        for effect in effects:
            one_first, one_last = {
                "wait": lambda e: (e[1], e[1]), "mix": lambda e: (0, len(e[1]) - 1), "limit": lambda e: (0, e[2]),
                "echo": lambda e: (0, None), "smooth": lambda e: (0, None),
            }.get(effect[0], lambda e: (0, 0))(effect)
            first += one_first
            last = None if last is None or one_last is None else last + one_last
        for k in range(0 if last is None else max(n - last, 0), n - first + 1):
            if (name, k) in seen:
                continue
            seen.add((name, k))
            m = k - meaning.ahead(name)
            if m >= 0 and source is not None and source[0] == "tone":
                for note in source[2]:
                    begin = sample_of(one.tempo, note[0])
                    if begin <= m < sample_of(one.tempo, note[0] + note[1]) + source[1][2][3]:
                        found.add((name, "note", note))
            elif m >= 0 and source is not None:
                found.update((name, "clip", clip) for clip in source[1] if clip[1] <= m < clip[1] + clip[2])
            for other, gain, word in inputs:
                if gain != 0:
                    left.append((other, k - 1 if word == "late" else k - (meaning.ahead(name) - meaning.arrival(other))))
    return tuple(sorted(found))


class Makers(unittest.TestCase):
    def made(self, one, name, expected):
        """Sees that the makers of these samples, and of no other near by, are these."""
        for number, some in expected.items():
            self.assertEqual(told(self, makers, one, name, number), some, number)
            self.assertEqual(expected_makers(one, name, number), some, number)

    def test_notes_from_their_first_sample_to_their_last(self):
        note = (("b", "note", NOTE),)
        one = project(node("b", source=("tone", TONE, (NOTE,))))
        self.made(one, "b", {0: (), 9: (), 10: note, 29: note, 30: note, 34: note, 35: (), 599: ()})

    def test_notes_that_are_alive_without_a_voice(self):
        notes = ((0, 9, 60, 1), (1, 2, 60, 100), (1, 9, 61, 100))
        one = project(node("b", source=("tone", TONE, notes)))
        self.made(one, "b", {20: tuple(("b", "note", note) for note in notes), 40: (("b", "note", notes[0]), ("b", "note", notes[2]))})

    def test_clips_from_their_first_sample_to_their_last(self):
        one = project(node("a", source=clips(7)))
        self.made(one, "a", {0: (), 6: (), 7: clips_of("a", 7), 9: clips_of("a", 7), 10: (), 599: ()})
        two = project(node("a", source=clips(7, 9)))
        self.made(two, "a", {8: clips_of("a", 7), 9: clips_of("a", 7, 9), 10: clips_of("a", 9), 11: clips_of("a", 9), 12: ()})

    def test_clips_that_give_nothing_count(self):
        silent = ("clips", (("none", 7, 3, 0, (1, 1), 0, (0, 0), (0, 0)),))
        one = project(node("a", source=silent), pool=())
        self.made(one, "a", {6: (), 7: (("a", "clip", silent[1][0]),), 10: ()})

    def test_the_first_and_the_last_sample_that_may_be_asked(self):
        one = project(node("a", source=clips(0, 599)))
        self.made(one, "a", {0: clips_of("a", 0), 2: clips_of("a", 0), 3: (), 598: (), 599: clips_of("a", 599)})

    def test_spans(self):
        at = clips_of("a", 20)
        for effects, first, last in (
            ((), 20, 22), ((("gain", 0),), 20, 22), ((("crush", 15),), 20, 22), ((("wait", 5),), 25, 27),
            ((("wait", 0),), 20, 22), ((("mix", (1, 0, 0)),), 20, 24), ((("mix", (0,)),), 20, 22),
            ((("limit", 1, 4),), 20, 26), ((("limit", 1, 0),), 20, 22), ((("wait", 5), ("mix", (0,) * 8)), 25, 34),
            ((("wait", 3), ("limit", 9, 2), ("wait", 4), ("mix", (1, 1)), ("gain", 3), ("crush", 2)), 27, 32),
        ):
            one = project(node("a", source=clips(20), effects=effects))
            self.made(one, "a", {first - 1: (), first: at, last: at, last + 1: ()})

    def test_spans_without_an_end(self):
        at = clips_of("a", 20)
        for effects, first in (
            ((("echo", 5, 0),), 20), ((("smooth", 256),), 20), ((("echo", 200, 1), ("wait", 3)), 23),
            ((("limit", 1, 7), ("smooth", 1), ("wait", 1)), 21),
        ):
            one = project(node("a", source=clips(20), effects=effects))
            self.made(one, "a", {0: (), first - 1: (), first: at, first + 1: at, 300: at, 599: at})

    def test_all_samples_back_to_the_first(self):
        one = project(node("a", source=clips(0, 100, 400), effects=(("echo", 1, 1),)))
        self.made(one, "a", {0: clips_of("a", 0), 99: clips_of("a", 0), 100: clips_of("a", 0, 100), 599: clips_of("a", 0, 100, 400)})

    def test_now_inputs_with_different_arrivals(self):
        one = project(node("a", source=clips(20)), node("b", source=clips(20), effects=(("limit", BOUND, 4),)),
                      node("c", "a", "b", source=clips(20)))
        # c and a come 4 samples later, b is heard as it is, with all that its limit hears.
        self.made(one, "c", {19: (), 20: clips_of("b", 20), 23: clips_of("b", 20),
                             24: clips_of("a", 20) + clips_of("b", 20) + clips_of("c", 20),
                             26: clips_of("a", 20) + clips_of("b", 20) + clips_of("c", 20), 27: ()})

    def test_late_inputs(self):
        one = project(node("a", source=clips(20)), node("b", "a*"))
        self.made(one, "b", {20: (), 21: clips_of("a", 20), 23: clips_of("a", 20), 24: ()})
        late = project(node("a", source=clips(20), effects=(("limit", BOUND, 4),)), node("b", "a*", source=clips(0)))
        self.made(late, "b", {0: clips_of("b", 0), 20: (), 21: clips_of("a", 20), 27: clips_of("a", 20), 28: ()})
        itself = project(node("a", "a*", source=clips(20)))
        self.made(itself, "a", {19: (), 20: clips_of("a", 20), 23: clips_of("a", 20), 599: clips_of("a", 20)})

    def test_late_inputs_of_one_another(self):
        one = project(node("a", "b*", source=clips(20)), node("b", "a*", source=clips(30)))
        both = clips_of("a", 20) + clips_of("b", 30)
        self.made(one, "a", {19: (), 20: clips_of("a", 20), 23: clips_of("a", 20), 30: clips_of("a", 20), 31: both, 599: both})
        self.made(one, "b", {20: (), 21: clips_of("a", 20), 29: clips_of("a", 20), 30: both, 599: both})
        once = project(node("a", "b*", source=("clips", (CLIP[:1] + (20, 1) + CLIP[3:],))), node("b", "a*"))
        some = things(once)
        self.made(once, "a", {20: some, 21: (), 22: some, 23: (), 24: some, 598: some, 599: ()})
        self.made(once, "b", {20: (), 21: some, 22: (), 599: some})

    def test_inputs_without_gain(self):
        one = project(node("a", source=clips(5)), ("b", None, (), (("a", 0, "late"), ("a", 0, "now")), LEVEL, 0),
                      ("c", None, (), (("a", 0, "now"), ("a", 1, "late")), ((0, 0),), 0))
        self.made(one, "b", {5: (), 6: (), 7: ()})
        self.made(one, "c", {5: (), 6: clips_of("a", 5), 8: clips_of("a", 5), 9: ()})

    def test_silent_nodes(self):
        one = project(node("a", source=clips(5), silent=1), node("b", "a", source=clips(5)), node("c", "b", silent=1))
        self.made(one, "a", {5: (), 6: ()})
        self.made(one, "b", {5: clips_of("b", 5), 7: clips_of("b", 5), 8: ()})
        self.made(one, "c", {5: (), 6: ()})

    def test_as_the_document_tells(self):
        source = random.Random(73)
        many = 0
        for _ in range(150):
            one = some_project(source)
            for _ in range(6):
                name, number = source.choice(one.nodes)[0], source.choice((0, 1, 20, 60, 130, 599, source.randrange(600)))
                some = told(self, makers, one, name, number)
                self.assertEqual(some, expected_makers(one, name, number))
                self.assertTrue(set(some) <= set(things(one)))
                many += len(some)
        self.assertGreater(many, 300)

    def test_what_is_no_maker_may_be_left_out(self):
        source = random.Random(74)
        tried = 0
        for _ in range(60):
            one = some_project(source)
            name, number = source.choice(one.nodes)[0], source.choice((0, 9, 35, 70, 110))
            some = makers(one, name, number)
            others = tuple(thing for thing in things(one) if thing not in some)
            value = sample_at(one, name, number)
            self.assertEqual(sample_at(without(one, others), name, number), value)
            for thing in others:
                tried += 1
                self.assertEqual(sample_at(without(one, (thing,)), name, number), value)
        self.assertGreater(tried, 100)

    def test_a_thing_changes_only_samples_that_it_makes(self):
        source = random.Random(75)
        for _ in range(12):
            one = some_project(source, 4)
            for thing in things(one)[:4]:
                less = without(one, (thing,))
                for name in [each[0] for each in one.nodes]:
                    pairs = zip(rendered(one, name, 0, 80), rendered(less, name, 0, 80))
                    for number, (with_it, without_it) in enumerate(pairs):
                        if with_it != without_it:
                            self.assertIn(thing, makers(one, name, number))

    def test_names_and_numbers(self):
        for value in ODD + ("g", "", "A", 0, ("a",), ["a"]):
            refused(self, InvalidName, value, makers, SEVERAL, value, -1)
        refuses_numbers(self, InvalidNumber, makers, (SEVERAL, "e", 0), 2, 0, 599)
        for number in ODD + (-1, 600, 999):
            refused(self, InvalidName, "zz", makers, SEVERAL, "zz", number)


class Sizes(unittest.TestCase):
    NAMES = "abcdefghijkl"
    PART = tuple(sorted((k % 50, 1 + k % 7, 20 + k, 100) for k in range(100)))
    SOURCE = ("tone", (("noise", 5), even_tuning(), (10, 10, 200, 20), 8), PART)

    def test_a_chain_of_twelve_with_many_effects(self):
        effects = (("limit", 9000, 32), ("mix", (9,) * 8), ("wait", 1), ("echo", 9, 9), ("smooth", 9), ("limit", 9, 1))
        one = project(*[node(name, *self.NAMES[max(at - 1, 0):at], source=self.SOURCE, effects=effects)
                        for at, name in enumerate(self.NAMES)])
        for name in "afl":
            for number in (0, 40, 599):
                self.assertEqual(makers(one, name, number), expected_makers(one, name, number))

    def test_late_inputs_of_all(self):
        for effects in ((), (("mix", (1,) * 8),) * 6, (("echo", 1, 1),)):
            one = project(*[node(name, *[other + "*" for other in (self.NAMES * 2)[at:at + 6]], source=self.SOURCE, effects=effects)
                            for at, name in enumerate(self.NAMES)])
            some = makers(one, "a", 599)
            self.assertEqual(some, expected_makers(one, "a", 599))
            self.assertGreater(len(some), 1000)


if __name__ == "__main__":
    unittest.main()
