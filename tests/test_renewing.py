"""[28] What a change reaches, and rendering anew."""

import random
import unittest

from tests.helpers import ODD, refused, refuses_numbers, told
from tests.meaning import BARS, BOUND, LEVEL, PACES, POOL, Meaning, some_effect, some_level, some_project, some_source
from trackloom.errors import InvalidKept, InvalidName, InvalidNumber
from trackloom.hearing import rendered
from trackloom.projects import Project
from trackloom.renewing import changed, reached, renewed
from trackloom.rendering import rendered_by, some_order
from trackloom.tones import even_tuning

DRUM = ("clips", (("drum", 0, 5, 0, (1, 1), 256, (0, 0), (0, 0)),))
HUM = ("clips", (("hum", 2, 50, 0, (1, 1), 256, (0, 0), (0, 0)),))
BOTH = ("clips", DRUM[1] + HUM[1])
NONE = ("clips", (("none", 0, 5, 0, (1, 1), 256, (0, 0), (0, 0)),))
TONED = ("tone", (("saw",), even_tuning(), (0, 0, 256, 0), 1), ((0, 4, 60, 100),))


def node(name, *inputs, source=None, effects=(), level=LEVEL, silent=0):
    """A node that hears these at once, those with an asterisk late."""
    heard = tuple(sorted((other.strip("*"), 256, "late" if "*" in other else "now") for other in inputs))
    return (name, source, effects, heard, level, silent)


def project(*nodes, paces=PACES, bars=BARS, pool=POOL):
    return Project(paces, bars, pool, tuple(sorted(nodes)))


class Changed(unittest.TestCase):
    NODES = (node("a", source=DRUM), node("b", "a", source=HUM), node("c", "b", source=TONED), node("d", source=BOTH),
             node("e", source=NONE), node("f"))

    def other(self, at, changed_node):
        return project(*(self.NODES[:at] + (changed_node,) + self.NODES[at + 1:]))

    def test_equal_projects(self):
        self.assertEqual(told(self, changed, project(*self.NODES), project(*self.NODES)), ())

    def test_each_place_of_a_node(self):
        before = project(*self.NODES)
        for after_node in (
            node("b", "a", source=DRUM), node("b", "a"), node("b", "a", source=TONED), node("b", "a", source=("clips", ())),
            node("b", "a", source=HUM, effects=(("gain", 256),)), node("b", "a*", source=HUM), node("b", source=HUM),
            node("b", "a", "a*", source=HUM), node("b", "a", source=HUM, level=((0, 255),)),
            node("b", "a", source=HUM, level=((1, 256),)), node("b", "a", source=HUM, silent=1),
        ):
            after = self.other(1, after_node)
            self.assertEqual(told(self, changed, before, after), ("b",))
            self.assertEqual(told(self, changed, after, before), ("b",))

    def test_several(self):
        before = project(*self.NODES)
        after = project(node("a", source=DRUM, silent=1), *self.NODES[1:4], node("e"), node("f", "f*"))
        self.assertEqual(told(self, changed, before, after), ("a", "e", "f"))

    def test_new_ones_and_those_that_are_gone(self):
        before = project(*self.NODES)
        after = project(*self.NODES[:4], node("ee", source=NONE), node("z"))
        self.assertEqual(told(self, changed, before, after), ("ee", "z"))
        self.assertEqual(told(self, changed, after, before), ("e", "f"))

    def test_one_with_another_name_is_a_new_one(self):
        self.assertEqual(told(self, changed, project(node("a")), project(node("b"))), ("b",))

    def test_paces(self):
        other = project(*self.NODES, paces=((0, 11, "flat"),))
        self.assertEqual(told(self, changed, project(*self.NODES), other), tuple("abcdef"))
        self.assertEqual(told(self, changed, other, project(*self.NODES[:3])), tuple("abc"))
        same_sound = project(*self.NODES, paces=((0, 10, "flat"), (5, 10, "flat")))
        self.assertEqual(changed(project(*self.NODES), same_sound), tuple("abcdef"))

    def test_bars(self):
        other = project(*self.NODES, bars=((0, 5),))
        self.assertEqual(told(self, changed, project(*self.NODES), other), ())

    def test_pools(self):
        before = project(*self.NODES)
        drum, hum = POOL
        for pool, names in (
            (POOL, ()), ((hum,), ("a", "d")), ((drum,), ("b", "d")), ((), ("a", "b", "d")),
            ((("drum", drum[1] + (0,)), hum), ("a", "d")), ((drum, ("hum", ())), ("b", "d")),
            (POOL + (("none", ()),), ("e",)), (POOL + (("other", (1,)),), ()), ((("a", (1,)),) + POOL, ()),
            ((("drum", hum[1]), ("hum", drum[1])), ("a", "b", "d")), ((drum, hum, ("none", (1,)), ("z", ())), ("e",)),
        ):
            after = project(*self.NODES, pool=pool)
            self.assertEqual(told(self, changed, before, after), names, pool)
            self.assertEqual(told(self, changed, after, before), names, pool)

    def test_a_name_that_only_tones_have_nothing_of(self):
        before = project(node("drum", source=TONED), node("hum"))
        self.assertEqual(changed(before, project(*before.nodes, pool=())), ())

    def test_nodes_and_pool_together(self):
        before = project(*self.NODES)
        after = project(*(self.NODES[:2] + (node("c"),) + self.NODES[3:]), pool=POOL[1:])
        self.assertEqual(told(self, changed, before, after), ("a", "c", "d"))


class Reached(unittest.TestCase):
    ONE = project(node("a"), node("b", "a"), node("c", "b*"), node("d", "c", "e"), node("e"), node("f", "g*"), node("g", "f"),
                  node("h", "h*"), node("i", "g"))

    def test_ways(self):
        for names, told_names in (
            ((), ""), (("a",), "abcd"), (("b",), "bcd"), (("c",), "cd"), (("d",), "d"), (("e",), "de"), (("f",), "fgi"),
            (("g",), "fgi"), (("h",), "h"), (("i",), "i"), (("a", "e"), "abcde"), (("d", "h"), "dh"),
            (tuple("abcdefghi"), "abcdefghi"), (("a", "f", "h"), "abcdfghi"),
        ):
            self.assertEqual(told(self, reached, self.ONE, names), tuple(told_names))

    def test_inputs_without_gain_and_silent_nodes_count(self):
        one = project(("a", None, (), (("b", 0, "late"),), LEVEL, 0), node("b", "c*", silent=1), node("c", silent=1))
        self.assertEqual(told(self, reached, one, ("c",)), ("a", "b", "c"))

    def test_names_that_are_none(self):
        for names in ODD + ("a", ("z",), ("a", "z"), ("b", "a"), ("a", "a"), ["a"], (0,), (None,), (("a",),), ("a", 0), ("", ),
                            ("A",), tuple("abcdefghij"), 0, (["a"],), (self.ONE,)):
            refused(self, InvalidName, names, reached, self.ONE, names)

    def test_a_long_chain(self):
        names = "abcdefghijkl"
        one = project(*[node(name, *names[at + 1:at + 2]) for at, name in enumerate(names)])
        self.assertEqual(reached(one, ("l",)), tuple(names))
        self.assertEqual(reached(one, ("b",)), ("a", "b"))


def some_change(source, before):
    """A project that differs from the one before in a few places."""
    for _ in range(50):
        nodes = {each[0]: each for each in before.nodes}
        name = source.choice(sorted(nodes))
        kind = source.randrange(8)
        parts = list(nodes[name])
        paces, pool = before.paces, before.pool
        if kind == 0 and len(nodes) > 1:
            del nodes[name]
        elif kind == 1:
            nodes["new"] = ("new", some_source(source), (), ((name, 256, source.choice(("now", "late"))),), LEVEL, 0)
            if source.randrange(2):
                parts[3] = parts[3][:5] + (("new", 100, "late"),)
                nodes[name] = (parts[0], parts[1], parts[2], tuple(sorted(parts[3])), parts[4], parts[5])
        elif kind == 2:
            pool = source.choice((POOL, POOL[:1], POOL[1:], ()))
        elif kind == 3 and source.randrange(3) == 0:
            paces = ((0, 4, "flat"),)
        else:
            place = source.choice((1, 2, 3, 4, 5))
            parts[place] = {1: lambda: some_source(source), 2: lambda: (some_effect(source),), 3: lambda: parts[3][1:],
                            4: lambda: some_level(source), 5: lambda: 1 - parts[5]}[place]()
            nodes[name] = tuple(parts)
        try:
            return Project(paces, before.bars, pool, tuple(nodes[each] for each in sorted(nodes)))
        except ValueError:
            pass
    return before


class Renewed(unittest.TestCase):
    def test_right_kept_rows(self):
        source = random.Random(61)
        saved = 0
        for _ in range(80):
            before = some_project(source)
            after = some_change(source, before)
            many = source.choice((0, 1, 30, 150))
            rows, names = renewed(before, after, Meaning(before).rows(many), many)
            self.assertEqual(rows, Meaning(after).rows(many))
            self.assertEqual(names, reached(after, changed(before, after)))
            for name, samples in rows:
                self.assertEqual(rendered(after, name, 0, many), samples)
            saved += len(names) < len(after.nodes)
        self.assertGreater(saved, 20)

    def test_free_kept_rows(self):
        source = random.Random(62)
        for _ in range(60):
            before = some_project(source)
            after = some_change(source, before)
            many = source.choice((1, 30, 100))
            kept = tuple((each[0], tuple(source.choice((0, 5, BOUND, -BOUND)) for _ in range(many))) for each in before.nodes)
            rows, names = told(self, renewed, before, after, kept, many)
            left = tuple((name, samples) for name, samples in kept
                         if name not in names and name in [each[0] for each in after.nodes])
            self.assertEqual(rows, Meaning(after, left).rows(many))
            for name, samples in rows:
                if name not in names:
                    self.assertEqual(samples, dict(kept)[name])
                else:
                    self.assertEqual(samples, rendered_by(after, some_order(after), (many,), left, name))

    def test_by_hand(self):
        before = project(node("a", source=DRUM), node("b", "a"), node("c", "a"), node("d"))
        after = project(node("a", source=DRUM), node("b", "a", effects=(("gain", 512),)), node("c", "a"), node("e", "b*"))
        kept = (("a", (1, 2, 3)), ("b", (9, 9, 9)), ("c", (7, 7, 7)), ("d", (8, 8, 8)))
        self.assertEqual(told(self, renewed, before, after, kept, 3), (
            (("a", (1, 2, 3)), ("b", (2, 4, 6)), ("c", (7, 7, 7)), ("e", (0, 2, 4))), ("b", "e"),
        ))
        self.assertEqual(told(self, renewed, before, before, kept, 3), (kept, ()))
        bars = Project(before.paces, ((0, 7),), before.pool, before.nodes)
        self.assertEqual(told(self, renewed, before, bars, kept, 3), (kept, ()))
        faster = Project(((0, 9, "flat"),), before.bars, before.pool, before.nodes)
        self.assertEqual(told(self, renewed, before, faster, kept, 3), (
            (("a", (1000, -2000, 3000)), ("b", (1000, -2000, 3000)), ("c", (1000, -2000, 3000)), ("d", (0, 0, 0))), tuple("abcd"),
        ))

    def test_all_nodes_come_and_go(self):
        before, after = project(node("a", source=DRUM)), project(node("b", source=DRUM))
        self.assertEqual(told(self, renewed, before, after, (("a", (5, 5)),), 2), ((("b", (1000, -2000)),), ("b",)))

    def test_many_0_and_600(self):
        before = project(node("a", source=HUM), node("b", "a", "b*"))
        after = project(node("a", source=HUM), node("b", "a"))
        self.assertEqual(told(self, renewed, before, after, (("a", ()), ("b", ())), 0), ((("a", ()), ("b", ())), ("b",)))
        kept = tuple((name, rendered(before, name, 0, 600)) for name in "ab")
        rows = tuple((name, rendered(after, name, 0, 600)) for name in "ab")
        self.assertEqual(told(self, renewed, before, after, kept, 600), (rows, ("b",)))

    def test_refused(self):
        one = project(node("a", source=DRUM), node("b", "a"))
        two = (1, 2)
        for many in ODD + (-1, 601, 1000):
            refused(self, InvalidNumber, many, renewed, one, one, [], many)
        refuses_numbers(self, InvalidNumber, lambda before, after, kept, many: renewed(
            before, after, tuple((name, (0,) * many) for name in "ab") if type(many) is int and 0 <= many <= 600 else [], many,
        ), (one, one, (), 0), 3, 0, 600)
        for kept in ODD + (
            (), [], (("a", two),), (("b", two),), (("a", two), ("b", two), ("c", two)), (("a", two), ("c", two)),
            (("b", two), ("a", two)), (("a", two), ("a", two)), (("a", two), ("b", (1,))), (("a", two), ("b", (1, 2, 3))),
            (("a", two), ("b", [1, 2])), (("a", two), ("b", (1, True))), (("a", two), ("b", (1, BOUND + 1))),
            (("a", two), ("b", (1, -BOUND - 1))), [("a", two), ("b", two)], (("a", two), ["b", two]), (("a", two), ("b", two, 0)),
            (("a", two), ("b",)), (("a", two), ("b", None)), (("a", two), (0, two)), "ab",
        ):
            refused(self, InvalidKept, kept, renewed, one, one, kept, 2)

    def test_kept_rows_are_those_of_the_project_ahead(self):
        before, after = project(node("a")), project(node("a"), node("b"))
        refused(self, InvalidKept, wrong := (("a", ()), ("b", ())), renewed, before, after, wrong, 0)
        self.assertEqual(renewed(before, after, (("a", ()),), 0), ((("a", ()), ("b", ())), ("b",)))
        refused(self, InvalidKept, wrong := (("a", ()),), renewed, after, before, wrong, 0)
        self.assertEqual(renewed(after, before, (("a", ()), ("b", ())), 0), ((("a", ()),), ()))

    def test_long_chains_and_late_inputs(self):
        names = "abcdefghijkl"
        effects = (("echo", 7, 99), ("limit", 500, 2), ("mix", (200, 30, 20)), ("smooth", 90), ("wait", 1), ("crush", 2))
        nodes = [node(name, *names[max(at - 1, 0):at], *[other + "*" for other in names[at:at + 4]], source=HUM, effects=effects)
                 for at, name in enumerate(names)]
        before = project(*nodes)
        after = project(node("a", "a*", "b*", source=DRUM, effects=effects), *nodes[1:])
        kept = tuple((name, rendered(before, name, 0, 600)) for name in names)
        rows, told_names = renewed(before, after, kept, 600)
        self.assertEqual(told_names, tuple(names))
        self.assertEqual(dict(rows)["l"], rendered(after, "l", 0, 600))
        short = Meaning(after).rows(60)
        self.assertEqual(tuple((name, samples[:60]) for name, samples in rows), short)


class Alike(unittest.TestCase):
    def test_what_is_not_reached_sounds_alike(self):
        source = random.Random(63)
        for _ in range(100):
            before = some_project(source)
            after = some_change(source, before)
            names = reached(after, changed(before, after))
            for each in after.nodes:
                if each[0] not in names:
                    self.assertIn(each, before.nodes)
                    self.assertEqual(rendered(before, each[0], 0, 60), rendered(after, each[0], 0, 60))


if __name__ == "__main__":
    unittest.main()
