"""[21] to [23] Projects."""

import random
import unittest

from tests.helpers import METRE, ODD, PROJECT, TEMPO, is_plain, nested, refused, told, warped
from tests.meaning import BARS, BOUND, LEVEL, PACES, POOL, Meaning, some_node, some_project
from trackloom.barring import Metre
from trackloom.errors import InvalidBars, InvalidName, InvalidNodes, InvalidPaces, InvalidPool, Round
from trackloom.pacing import Tempo
from trackloom.projects import Project, arrival, is_node, node_of
from trackloom.tones import even_tuning

TONE = (("noise", 3), even_tuning(), (1, 2, 200, 4), 3)
NOTES = ((0, 4, 60, 100), (2, 3, 64, 90))
CLIP = ("drum", 3, 5, 0, (1, 1), 256, (0, 0), (1, 4))
CLIPS = tuple(("drum", at) + CLIP[2:] for at in range(9))
EFFECTS = (("gain", 200), ("limit", 100, 5), ("mix", (1, 2)), ("wait", 3), ("echo", 1, 1), ("smooth", 9))
INPUTS = tuple(("a", gain, "late") for gain in range(7))
TONED = ("a", ("tone", TONE, NOTES), EFFECTS[:2], (("a", 5, "late"), ("b", -1024, "now")), ((0, 5), (7, -3)), 0)
CLIPPED = ("b", ("clips", CLIPS[:2]), (), (), LEVEL, 1)
BARE = ("c", None, (), (), LEVEL, 0)


def bare(name, *inputs):
    """A node that only hears: by a name alone now, by one with an asterisk late."""
    heard = tuple(sorted((other.strip("*"), 256, "late" if "*" in other else "now") for other in inputs))
    return (name, None, (), heard, LEVEL, 0)


def changed(node, at, value):
    return node[:at] + (value,) + node[at + 1:]


def project(*nodes):
    return Project(PACES, BARS, POOL, tuple(sorted(nodes)))


class Nodes(unittest.TestCase):
    def test_nodes(self):
        for node in (TONED, CLIPPED, BARE, changed(BARE, 1, ("tone", TONE, ())), changed(BARE, 1, ("clips", ()))):
            self.assertIs(told(self, is_node, node), True)
        source = random.Random(31)
        for _ in range(100):
            self.assertIs(is_node(some_node(source, "a", ["b", "c"], ["a", "b", "c"])), True)

    def test_an_input_may_name_any_name(self):
        self.assertIs(told(self, is_node, bare("a", "nowhere", "a")), True)

    def test_no_nodes(self):
        for value in ODD + (0, (), "a", TONED[:5], TONED + (0,), list(TONED), nested(tuple, 6), (TONED,)):
            self.assertIs(told(self, is_node, value), False, value)
        for node in (TONED, CLIPPED, BARE):
            for value in warped(node):
                # Bools are equal to numbers, but do not look like them.
                self.assertIs(is_node(value), repr(value) == repr(changed(node, 1, None)), value)

    def test_sizes_and_bounds(self):
        for at, value, fine in (
            (0, "abcdefgh", True), (0, "abcdefghi", False), (0, "", False), (0, "A", False), (0, "a1", False),
            (1, ("clips", CLIPS[:8]), True), (1, ("clips", CLIPS), False), (1, ("clips", CLIPS[1::-1]), False),
            (1, ("clips", CLIPS[:1] * 2), False), (1, ("clips", ()), True), (1, ("clips", None), False),
            (1, ("clips",), False), (1, ("clips", (), ()), False), (1, ("tone", TONE), False), (1, (), False),
            (1, ("tone", TONE, NOTES[::-1]), False), (1, ("tone", NOTES, TONE), False), (1, ("clip", ()), False),
            (1, ("tone", TONE, ()), True), (1, ("Tone", TONE, ()), False), (1, (None,), False), (1, 0, False),
            (1, (("clips",), ()), False), (1, ("tone", ()), False), (1, ["clips", ()], False), (1, False, False),
            (2, EFFECTS, True), (2, EFFECTS + EFFECTS[:1], False), (2, (("gain", 1),) * 6, True), (2, None, False),
            (2, (("gain", 1025),), False), (2, ("gain", 1), False), (2, ((),), False), (2, (None,), False),
            (3, INPUTS[:6], True), (3, INPUTS, False), (3, INPUTS[1::-1], False), (3, INPUTS[:1] * 2, False),
            (3, (("a", 1024, "now"), ("b", -1024, "late")), True), (3, (("a", 1025, "now"),), False),
            (3, (("a", -1025, "now"),), False), (3, (("a", 0, "now"), ("a", 0, "late")), False),
            (3, (("a", 0, "late"), ("a", 0, "now")), True), (3, (("a", 0, "Now"),), False), (3, (("a", 0, ""),), False),
            (3, (("a", 0, None),), False), (3, (("a", 0),), False), (3, (("a", 0, "now", 0),), False),
            (3, ("a", 0, "now"), False), (3, (("", 0, "now"),), False), (3, (("a", True, "now"),), False),
            (3, (("a", 0, ("now",)),), False), (3, (("a", 0, "later"),), False), (3, ((0, "a", "now"),), False),
            (4, ((2000, 1024),), True), (4, (), False), (4, ((2001, 0),), False), (4, ((0, 1), (0, 2)), False),
            (4, 256, False), (4, None, False), (5, 0, True), (5, 1, True), (5, 2, False), (5, -1, False),
            (5, True, False), (5, False, False), (5, None, False), (5, "0", False), (5, (0,), False),
        ):
            self.assertIs(told(self, is_node, changed(BARE, at, value)), fine, (at, value))


class Projects(unittest.TestCase):
    def test_attributes(self):
        nodes = (TONED, CLIPPED, BARE)
        paces = ((0, 5, "ramp"), (9, 7, "flat"))
        bars = ((0, 3), (2, 5))
        for one in (Project(paces, bars, POOL, nodes), Project(paces=paces, bars=bars, pool=POOL, nodes=nodes)):
            self.assertEqual((one.paces, one.bars, one.pool, one.nodes), (paces, bars, POOL, nodes))
            self.assertTrue(all(is_plain(value) for value in (one.paces, one.bars, one.pool, one.nodes)))
            self.assertIs(type(one.tempo), Tempo)
            self.assertEqual(one.tempo, Tempo(paces))
            self.assertIs(type(one.metre), Metre)
            self.assertEqual(one.metre, Metre(bars))

    def test_equal_if_all_four_are(self):
        one = Project(PACES, BARS, POOL, (BARE,))
        self.assertTrue(one == Project(PACES, BARS, POOL, (BARE,)))
        self.assertFalse(one != Project(PACES, BARS, POOL, (BARE,)))
        for other in (
            Project(((0, 11, "flat"),), BARS, POOL, (BARE,)), Project(PACES, ((0, 5),), POOL, (BARE,)),
            Project(PACES, BARS, POOL[:1], (BARE,)), Project(PACES, BARS, POOL, (changed(BARE, 5, 1),)),
            Project(PACES, BARS, POOL, (changed(BARE, 0, "d"),)),
        ) + ODD + ((PACES, BARS, POOL, (BARE,)), 0):
            self.assertFalse(one == other)
            self.assertTrue(one != other)
            self.assertFalse(other == one)

    def test_not_iterable(self):
        with self.assertRaises(TypeError):
            iter(PROJECT)
        with self.assertRaises(TypeError):
            list(PROJECT)

    def test_numbers_of_nodes(self):
        nodes = tuple(changed(BARE, 0, name) for name in "abcdefghijklm")
        self.assertEqual(Project(PACES, BARS, (), nodes[:12]).nodes, nodes[:12])
        self.assertEqual(Project(PACES, BARS, (), nodes[:1]).nodes, nodes[:1])
        for wrong in ((), nodes):
            refused(self, InvalidNodes, wrong, Project, PACES, BARS, (), wrong)

    def test_nodes_that_are_none(self):
        a, b, c = (changed(BARE, 0, name) for name in "abc")
        for wrong in ODD + (
            (b, a), (a, a), (a, changed(a, 5, 1)), (a, c, b), [a], a, (a, None), (a, b[:5]), (bare("a", "b"),),
            (bare("a", "b*"), c), (a, bare("b", "a", "c")), (changed(a, 3, INPUTS),), (changed(a, 2, EFFECTS + EFFECTS[:1]),),
            (changed(a, 4, ()),), (changed(a, 5, 2),), (changed(a, 5, True),), (changed(a, 1, ("clips", CLIPS)),),
            (bare("a", "a", "nowhere"),), 0,
        ):
            refused(self, InvalidNodes, wrong, Project, PACES, BARS, POOL, wrong)
        nodes = (a, changed(CLIPPED, 1, ("clips", CLIPS[:1])))
        fine = (repr(nodes), repr((a, changed(CLIPPED, 1, None))))
        for wrong in warped(nodes):
            if repr(wrong) not in fine:
                refused(self, InvalidNodes, wrong, Project, PACES, BARS, POOL, wrong)

    def test_the_first_wrong_one_is_told(self):
        ring = (bare("a", "a"),)
        for wrong in ODD:
            refused(self, InvalidPaces, wrong, Project, wrong, (), [], [])
            refused(self, InvalidBars, wrong, Project, PACES, wrong, [], [])
            refused(self, InvalidPool, wrong, Project, PACES, BARS, wrong, [])
            refused(self, InvalidPaces, wrong, Project, wrong, BARS, POOL, ring)
            refused(self, InvalidBars, wrong, Project, PACES, wrong, POOL, ring)
            refused(self, InvalidPool, wrong, Project, PACES, BARS, wrong, ring)
        for wrong in warped(PACES):
            refused(self, InvalidPaces, wrong, Project, wrong, BARS, POOL, (BARE,))
        for wrong in warped(BARS):
            refused(self, InvalidBars, wrong, Project, PACES, wrong, POOL, (BARE,))
        for wrong in warped(POOL[:1]):
            refused(self, InvalidPool, wrong, Project, PACES, BARS, wrong, (BARE,))
        refused(self, InvalidPaces, TEMPO, Project, TEMPO, METRE, [], [])


class Rounds(unittest.TestCase):
    def goes_round(self, names, *nodes):
        with self.assertRaises(Round) as caught:
            project(*nodes)
        self.assertIs(type(caught.exception.names), tuple)
        self.assertEqual(caught.exception.names, names)

    def test_rings(self):
        self.goes_round(("a",), bare("a", "a"))
        self.goes_round(("a", "b"), bare("a", "b"), bare("b", "a"))
        self.goes_round(("a", "b", "c"), bare("a", "c"), bare("b", "a"), bare("c", "b"))
        self.goes_round(("b",), bare("a"), bare("b", "a", "b"), bare("c", "b"))
        self.goes_round(("a", "b", "c", "d"), bare("a", "b", "c"), bare("b", "a", "d"), bare("c", "b"), bare("d", "b"))

    def test_two_rings(self):
        self.goes_round(("a", "b", "d", "e"), bare("a", "b"), bare("b", "a"), bare("c"), bare("d", "e"), bare("e", "d"))
        self.goes_round(("a", "b", "d"), bare("a", "b"), bare("b", "a"), bare("c", "a", "d"), bare("d", "d"))

    def test_only_nodes_on_rings_are_named(self):
        self.goes_round(("b", "c"), bare("a", "b"), bare("b", "c"), bare("c", "b", "d"), bare("d"))
        # c lies between two rings, and on none.
        self.goes_round(("a", "b", "d"), bare("a", "b"), bare("b", "a"), bare("c", "b"), bare("d", "c", "d"))

    def test_late_inputs_close_no_ring(self):
        for nodes in ((bare("a", "a*"),), (bare("a", "b*"), bare("b", "a")), (bare("a", "b*"), bare("b", "a*")),
                      (bare("a", "b"), bare("b", "c*"), bare("c", "a"))):
            self.assertEqual(project(*nodes).nodes, nodes)
        self.goes_round(("a", "b"), bare("a", "b", "b*"), bare("b", "a"), bare("c", "a*"))

    def test_inputs_without_gain_count(self):
        self.goes_round(("a",), changed(BARE, 0, "b"), changed(changed(BARE, 0, "a"), 3, (("a", 0, "now"),)))

    def test_silent_nodes_count(self):
        self.goes_round(("a",), changed(bare("a", "a"), 5, 1))

    def test_refused_just_where_there_is_a_ring(self):
        source = random.Random(32)
        for _ in range(300):
            names = "abcdef"[:source.randrange(1, 7)]
            links = {name: source.sample(names, source.choice((0, 1, 1, 2)) % (len(names) + 1)) for name in names}
            nodes = [bare(name, *links[name], source.choice(names) + "*") for name in names]
            led = {name: set(links[name]) for name in names}
            for _ in names:
                led = {name: led[name].union(*[led[other] for other in led[name]]) for name in names}
            ringed = tuple(name for name in names if name in led[name])
            if ringed:
                self.goes_round(ringed, *nodes)
            else:
                self.assertEqual(project(*nodes).nodes, tuple(nodes))

    def test_twelve_that_all_hear_those_ahead(self):
        names = "abcdefghijkl"
        nodes = [bare(name, *names[max(at - 6, 0):at]) for at, name in enumerate(names)]
        self.assertEqual(project(*nodes).nodes, tuple(nodes))
        self.assertEqual(arrival(project(*nodes), "l"), 0)


class Named(unittest.TestCase):
    def test_node_of(self):
        one = project(TONED, CLIPPED, BARE)
        for node in one.nodes:
            self.assertEqual(told(self, node_of, one, node[0]), node)

    def test_names_that_no_node_has(self):
        one = project(TONED, CLIPPED, BARE)
        for value in ODD + ("d", "A", "aa", "a ", 0, ("a",), ["a"], TONED):
            refused(self, InvalidName, value, node_of, one, value)
            refused(self, InvalidName, value, arrival, one, value)


class Arrivals(unittest.TestCase):
    def test_own_delays(self):
        for effects, late in (
            ((), 0), ((("wait", 9),), 0), ((("limit", 5, 7),), 7), ((("limit", 5, 0),), 0),
            ((("limit", 1, 32),) * 6, 192), ((("limit", 5, 7), ("echo", 200, 1), ("limit", BOUND, 3)), 10),
        ):
            self.assertEqual(told(self, arrival, project(changed(BARE, 2, effects)), "c"), late)

    def test_the_latest_of_those_heard_now(self):
        def node(name, ahead, *inputs):
            return changed(bare(name, *inputs), 2, (("limit", 9, ahead),))
        one = project(node("a", 5), node("b", 2, "a"), node("c", 10), node("d", 1, "a", "b", "c"), node("e", 0, "d", "a"),
                      node("f", 3, "e*", "d*"), node("g", 4, "f", "g*", "e*"), changed(node("h", 6, "e"), 5, 1))
        self.assertEqual([told(self, arrival, one, name) for name in "abcdefgh"], [5, 7, 10, 11, 11, 3, 7, 17])

    def test_many_ways(self):
        names = "abcdefghijkl"
        nodes = []
        for at, name in enumerate(names):
            inputs = tuple((names[at - 1], gain, "now") for gain in range(6)) if at else ()
            nodes.append((name, None, (("limit", 9, 32),) * 6, inputs, LEVEL, 0))
        self.assertEqual(arrival(project(*nodes), "l"), 12 * 192)

    def test_as_the_document_tells(self):
        source = random.Random(33)
        for _ in range(100):
            one = some_project(source)
            for node in one.nodes:
                self.assertEqual(arrival(one, node[0]), Meaning(one).arrival(node[0]))


if __name__ == "__main__":
    unittest.main()
