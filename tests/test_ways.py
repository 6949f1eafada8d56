"""[19] to [29] All ways in which samples are told, beside what is reckoned sample by sample by the words of [24]."""

import random
import unittest

from tests.helpers import calls_of
from tests.meaning import BARS, BOUND, LEVEL, PACES, POOL, Meaning, some_effect, some_level, some_source
from tests.test_effects import EFFECTS, some_samples
from trackloom.effects import fresh, heard, pushed
from trackloom.hearing import rendered, sample_at
from trackloom.making import makers
from trackloom.projects import Project
from trackloom.rendering import Renderer, rendered_by, some_order
from trackloom.renewing import changed, reached, renewed
from trackloom.tones import even_tuning

NAMES = ("a", "b", "c", "d", "e")
HUM = ("clips", (("drum", 30, 60, 4, (-1, 2), 700, (0, 9), (1, 7)), ("hum", 0, 90, 0, (1, 1), 256, (0, 0), (0, 0))))
TONE = ("tone", (("peak",), even_tuning(), (3, 5, 100, 12), 2), ((0, 3, 60, 127), (1, 4, 64, 90), (1, 4, 67, 90), (4, 1, 30, 5)))


def some_inputs(source, name, ahead):
    """Inputs of a node that hears now at most some of those ahead, and late any: itself, those ahead, those that come behind."""
    now = {(other, source.choice((-256, 0, 128, 256, 300)), "now") for other in ahead if source.randrange(2)}
    late = {(other, source.choice((-200, 0, 90, 256)), "late") for other in NAMES if source.randrange(4) == 0}
    if source.randrange(4) == 0:
        late.add((name, source.choice((-255, 100, 256)), "late"))
    return tuple(sorted(now | late)[:6])


def some_node(source, name, ahead):
    effects = tuple(some_effect(source) for _ in range(source.choice((0, 1, 2, 3))))
    return (name, some_source(source), effects, some_inputs(source, name, ahead), some_level(source), source.randrange(8) // 7)


def some_project(source):
    names = source.sample(NAMES, len(NAMES))
    nodes = tuple(sorted(some_node(source, name, names[:at]) for at, name in enumerate(names)))
    return Project(source.choice((PACES, ((0, 3, "ramp"), (8, 20, "flat")), ((0, 1, "flat"),))), BARS, POOL, nodes)


def hears_itself(project, name):
    """Whether the node hears itself, now or late, by whatever way."""
    links = {node[0]: {other for other, _, _ in node[3]} for node in project.nodes}
    found = set(links[name])
    for _ in links:
        found |= {other for one in found for other in links[one]}
    return name in found


class Ways(unittest.TestCase):
    def agrees(self, source, project, many):
        """Sees that all ways tell just the rows of the meaning, which are returned."""
        rows = Meaning(project).rows(many)
        cut = source.randrange(many + 1)
        renderer = Renderer(project)
        start = renderer.mark()
        whole = {name: () for name, _ in rows}
        while renderer.at < many:
            for name, samples in renderer.next(min(source.choice((1, 2, 7, 40)), many - renderer.at)):
                whole[name] += samples
        self.assertEqual(tuple(sorted(whole.items())), rows)
        renderer.back(start)
        self.assertEqual(renderer.next(many), rows)
        kept = tuple(pair for pair in rows if source.randrange(3) == 0)
        for name, samples in rows:
            self.assertEqual(rendered(project, name, 0, many), samples)
            self.assertEqual(rendered(project, name, cut, many), samples[cut:])
            self.assertEqual(sample_at(project, name, many - 1), samples[-1])
            self.assertEqual(rendered_by(project, some_order(project), (many,), (), name), samples)
            self.assertEqual(rendered_by(project, some_order(project), (1,) * many, kept, name), samples)
        return rows

    def test_drawn_projects(self):
        source = random.Random(501)
        rings = 0
        for _ in range(60):
            project = some_project(source)
            self.agrees(source, project, source.choice((1, 2, 30, 90)))
            rings += sum(hears_itself(project, name) for name in NAMES)
        self.assertTrue(60 < rings < 240, rings)

    def test_rows_that_are_kept_and_not_right(self):
        source = random.Random(502)
        for _ in range(40):
            project = some_project(source)
            many = source.choice((1, 25))
            kept = tuple((name, some_samples(source, many)) for name in NAMES if source.randrange(3) == 0)
            for name, samples in Meaning(project, kept).rows(many):
                self.assertEqual(rendered_by(project, some_order(project), (many,), kept, name), samples)

    def test_renewed(self):
        source = random.Random(503)
        for _ in range(40):
            before = some_project(source)
            nodes = list(before.nodes)
            at = source.randrange(len(nodes))
            nodes[at] = nodes[at][:1] + some_node(source, "x", ())[1:3] + nodes[at][3:]
            after = Project(before.paces, before.bars, source.choice((POOL, POOL[:1])), tuple(nodes))
            many = source.choice((1, 40))
            rows, names = renewed(before, after, Meaning(before).rows(many), many)
            self.assertEqual(rows, Meaning(after).rows(many))
            self.assertEqual(names, reached(after, changed(before, after)))

    def test_each_effect_in_a_ring_and_in_none(self):
        source = random.Random(504)
        for effect in EFFECTS + tuple(some_effect(source) for _ in range(30)):
            for late in ((), (("a", 128, "late"),), (("b", -200, "late"),), (("a", 77, "late"), ("b", 256, "late"))):
                nodes = (("a", HUM, (effect, ("gain", 300), effect), late, LEVEL, 0), ("b", None, (effect,), (("a", 256, "now"),), LEVEL, 0))
                self.agrees(source, Project(PACES, BARS, POOL, nodes), 45)

    def test_late_inputs_of_nodes_that_come_behind(self):
        """In no ring: a hears late what comes behind it in each order that is let, or that has another arrival."""
        source = random.Random(505)
        limit = (("limit", 900, 9),)
        nodes = (("a", HUM, limit, (("c", 256, "late"),), LEVEL, 0), ("b", TONE, limit, (), LEVEL, 0), ("c", None, limit, (("b", 256, "now"),), LEVEL, 0),
                 ("d", TONE, (), (("a", 99, "now"), ("c", 50, "late")), ((2, 100), (5, -300)), 0))
        self.agrees(source, Project(PACES, BARS, POOL, nodes), 80)

    def test_a_ring_that_hears_and_is_heard(self):
        source = random.Random(506)
        nodes = (("a", HUM, (("limit", 700, 3),), (), LEVEL, 0),
                 ("b", None, (("echo", 3, 99),), (("a", 256, "now"), ("d", 200, "late")), ((0, 200), (6, 256)), 0),
                 ("c", TONE, (("smooth", 99),), (("b", 256, "now"),), LEVEL, 0),
                 ("d", None, (("wait", 5), ("limit", 900, 4)), (("a", 10, "late"), ("c", 256, "now")), LEVEL, 0),
                 ("e", None, (("mix", (200, -50, 9)),), (("a", 256, "now"), ("d", 256, "now"), ("e", 255, "late")), LEVEL, 0))
        project = Project(PACES, BARS, POOL, nodes)
        self.assertEqual([name for name in NAMES if hears_itself(project, name)], ["b", "c", "d", "e"])
        self.agrees(source, project, 120)

    def test_rings_that_silence_or_no_gain_breaks(self):
        source = random.Random(507)
        for silent, gain in ((0, 0), (1, 0), (1, 256), (0, 256)):
            nodes = (("a", HUM, (("echo", 2, 200),), (("c", gain, "late"),), LEVEL, 0), ("b", TONE, (), (("a", 256, "now"),), LEVEL, silent),
                     ("c", HUM, (), (("a", 30, "late"), ("b", 256, "now")), LEVEL, 0))
            self.agrees(source, Project(PACES, BARS, POOL, nodes), 60)

    def test_up_to_the_last_sample(self):
        source = random.Random(508)
        project = some_project(source)
        rows = dict(Meaning(project).rows(1000))
        for name in NAMES:
            self.assertEqual(rendered(project, name, 400, 1000), rows[name][400:])
            self.assertEqual(sample_at(project, name, 999), rows[name][999])
        renderer = Renderer(project)
        for many in (1, 3, 500, 300, 196):
            first = renderer.at
            self.assertEqual(dict(renderer.next(many)), {name: rows[name][first:first + many] for name in NAMES})

    def test_samples_at_the_bounds(self):
        source = random.Random(509)
        loud = ("clips", tuple(("loud", 0, 600, 0, (1, 1), gain, (0, 0), (0, 0)) for gain in range(1017, 1025)))
        pool = (("loud", tuple(source.choice((32767, -32768, 0)) for _ in range(600))),)
        for effects in ((("gain", 1024), ("limit", BOUND, 2)), (("gain", 1024), ("gain", -1024), ("crush", 15)), (("gain", 1024), ("echo", 1, 255)),
                        (("gain", 1024), ("mix", (256, 256, -256))), (("gain", 1024), ("smooth", 256), ("limit", 8388606, 0))):
            for late in ((), (("a", 1024, "late"),)):
                nodes = (("a", loud, effects, late, ((0, 1024),), 0), ("b", loud, (), (("a", 1023, "late"), ("a", 1024, "now")), ((0, -300),), 0))
                self.agrees(source, Project(PACES, BARS, pool, nodes), 40)


class FewCalls(unittest.TestCase):
    """Where it need not be, nothing is reckoned with a call for each sample; calls are counted, as time is not the same everywhere."""

    EFFECTS = (("limit", BOUND, 32), ("wait", 40), ("gain", 256), ("mix", (256,)), ("limit", BOUND, 5), ("wait", 0))

    def chain(self, late=()):
        clip = ("main", 0, 600, 0, (1, 1), 256, (0, 0), (0, 0))
        names = "abcdefghijkl"
        nodes = [(name, None if at else ("clips", (clip,)), self.EFFECTS, ((names[at - 1], 256, "now"),) if at else late, LEVEL, 0)
                 for at, name in enumerate(names)]
        return Project(((0, 100, "flat"),), BARS, (("main", tuple(k * 7919 % 65536 - 32768 for k in range(600))),), tuple(nodes))

    def test_effects(self):
        source = random.Random(511)
        for effect in EFFECTS:
            samples = some_samples(source, 1500)
            # To look at the samples takes two calls for each, to go on from the last one a third.
            self.assertLess(calls_of(heard, effect, samples), 3 * 1500 + 600, effect)
            self.assertLess(calls_of(pushed, effect, fresh(effect), samples), 3 * 1500 + 600, effect)

    def test_a_long_chain(self):
        project = self.chain()
        order = some_order(project)
        for function, arguments in (
            (rendered, (project, "l", 0, 600)), (rendered, (project, "l", 600, 1000)), (sample_at, (project, "l", 999)), (Renderer(project).next, (600,)),
            (rendered_by, (project, order, (600,), (), "l")), (makers, (project, "l", 599)),
        ):
            self.assertLess(calls_of(function, *arguments), 3000)

    def test_a_long_chain_that_hears_late(self):
        """A late input that leads to no ring costs no more; in a ring it does."""
        project = self.chain()
        nodes = list(project.nodes)
        nodes[-1] = nodes[-1][:3] + ((("a", 256, "late"), ("k", 256, "now")),) + nodes[-1][4:]
        late = Project(project.paces, project.bars, project.pool, tuple(nodes))
        self.assertLess(calls_of(rendered, late, "l", 0, 600), 3000)
        self.assertGreater(calls_of(rendered, self.chain((("l", 1, "late"),)), "l", 0, 600), 3000)

    def test_tones_clips_and_levels(self):
        level = tuple((2 * tick, tick * 97 % 500) for tick in range(40))
        clips = tuple(sorted(("hum", at, 900, at, (1, 2), 200, (0, 300), (0, 300)) for at in range(8)))
        part = tuple((tick, 10, 60 + tick, 100) for tick in range(30))
        tone = (("table", (5, 9, -30000)), even_tuning(), (9, 9, 99, 99), 8)
        nodes = (("a", ("clips", clips), (), (), level, 0), ("b", ("tone", tone, part), (), (("a", 256, "now"),), level, 0))
        self.assertLess(calls_of(rendered, Project(((0, 20, "flat"),), BARS, POOL, nodes), "b", 400, 1000), 12000)


if __name__ == "__main__":
    unittest.main()
