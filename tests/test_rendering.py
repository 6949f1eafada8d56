"""[26] and [27] Orders, blocks, kept rows, and renderers."""

import itertools
import random
import unittest

from tests.helpers import ODD, is_plain, nested, refused, told
from tests.meaning import BARS, BOUND, LEVEL, PACES, Meaning, some_project
from trackloom.errors import InvalidBlocks, InvalidKept, InvalidMark, InvalidName, InvalidNumber, InvalidOrder, StudioError
from trackloom.hearing import rendered
from trackloom.projects import Project
from trackloom.rendering import Renderer, is_order, rendered_by, some_order

POOL = (("ten", (10, -20, 30, -40, 50, -60, 70, -80, 90, -100)),)
TEN = ("clips", (("ten", 0, 10, 0, (1, 1), 256, (0, 0), (0, 0)),))
SOUND = POOL[0][1]


def node(name, *inputs, source=TEN, effects=(), silent=0):
    """A node that hears these at once, those with an asterisk late."""
    heard = tuple(sorted((other.strip("*"), 256, "late" if "*" in other else "now") for other in inputs))
    return (name, source, effects, heard, LEVEL, silent)


def project(*nodes):
    return Project(PACES, BARS, POOL, tuple(sorted(nodes)))


ONE = project(node("a", "c"), node("b", "a", "c"), node("c", "b*"), node("d", "d*"))
NAMES = ("a", "b", "c", "d")


class Orders(unittest.TestCase):
    def test_let_and_not_let(self):
        for order in itertools.permutations(NAMES):
            fine = order.index("c") < order.index("a") < order.index("b")
            self.assertIs(told(self, is_order, ONE, order), fine, order)

    def test_what_is_no_order(self):
        fine = ("c", "a", "b", "d")
        self.assertIs(is_order(ONE, fine), True)
        for value in ODD + (
            0, (), fine[:3], fine + ("d",), fine + ("e",), ("c", "a", "b", "e"), ("c", "a", "b", "b"), list(fine), "cabd",
            ("c", "a", "b", 0), ("c", "a", "b", None), ("c", "a", "b", ("d",)), ("c", "a", "b", ["d"]), (fine,),
            (("c",), ("a",), ("b",), ("d",)), (0, 1, 2, 3), ("c", "c", "a", "b"), ("C", "a", "b", "d"), nested(tuple, 4),
            (ONE, "a", "b", "c"), (True, "a", "b", "d"),
        ):
            self.assertIs(told(self, is_order, ONE, value), False, value)
            refused(self, InvalidOrder, value, rendered_by, ONE, value, [], [], 0)

    def test_some_order(self):
        self.assertIs(is_order(ONE, told(self, some_order, ONE)), True)
        source = random.Random(51)
        for _ in range(100):
            one = some_project(source)
            self.assertIs(is_order(one, told(self, some_order, one)), True)
            again = Project(one.paces, one.bars, one.pool, one.nodes)
            self.assertEqual(some_order(again), some_order(one))

    def test_a_long_chain(self):
        names = "abcdefghijkl"
        one = project(*[node(name, *names[at + 1:at + 2]) for at, name in enumerate(names)])
        self.assertEqual(told(self, some_order, one), tuple(reversed(names)))
        self.assertIs(is_order(one, tuple(names)), False)

    def test_inputs_without_gain_bind_too(self):
        one = project(("a", None, (), (("b", 0, "now"),), LEVEL, 1), node("b"))
        self.assertIs(is_order(one, ("a", "b")), False)
        self.assertEqual(some_order(one), ("b", "a"))


class RenderedBy(unittest.TestCase):
    def test_all_orders_and_blocks_tell_the_same(self):
        for order in filter(lambda order: is_order(ONE, order), itertools.permutations(NAMES)):
            for blocks in ((), (1,), (12,), (1,) * 12, (5, 7), (11, 1), (3, 4, 5)):
                for name in NAMES:
                    expected = rendered(ONE, name, 0, sum(blocks))
                    self.assertEqual(told(self, rendered_by, ONE, order, blocks, (), name), expected)

    def test_projects_made_at_random(self):
        source = random.Random(52)
        for _ in range(60):
            one = some_project(source)
            names = [each[0] for each in one.nodes]
            blocks = tuple(source.choice((1, 2, 30, 70)) for _ in range(source.randrange(5)))
            right = Meaning(one).rows(sum(blocks))
            order = source.choice([order for order in itertools.permutations(names) if is_order(one, order)])
            kept = tuple(pair for pair in right if source.randrange(3) == 0)
            for name, samples in right:
                self.assertEqual(rendered_by(one, order, blocks, (), name), samples)
                self.assertEqual(rendered_by(one, order, blocks, kept, name), samples)
                self.assertEqual(rendered_by(one, order, blocks, right, name), samples)
                self.assertEqual(rendered(one, name, 0, sum(blocks)), samples)

    def test_free_kept_rows(self):
        source = random.Random(53)
        for _ in range(60):
            one = some_project(source)
            many = source.choice((1, 20, 150))
            kept = tuple((each[0], tuple(source.choice((0, 9, -BOUND, BOUND)) for _ in range(many)))
                         for each in one.nodes if source.randrange(2))
            for name, samples in Meaning(one, kept).rows(many):
                self.assertEqual(rendered_by(one, some_order(one), (many,), kept, name), samples)

    def test_kept_rows_by_hand(self):
        one = project(node("a"), node("b", "a", source=None), node("c", "b", "c*", source=None), node("d", "b", silent=1))
        order = some_order(one)
        kept = (("b", (1, 2, 3, 4)),)
        for name, samples in (("a", SOUND[:4]), ("b", (1, 2, 3, 4)), ("c", (1, 3, 6, 10)), ("d", (0,) * 4)):
            self.assertEqual(told(self, rendered_by, one, order, (4,), kept, name), samples)
        kept = (("a", (5, 5)), ("d", (BOUND, -BOUND)))
        for name, samples in (("a", (5, 5)), ("b", (5, 5)), ("c", (5, 10)), ("d", (BOUND, -BOUND))):
            self.assertEqual(told(self, rendered_by, one, order, (1, 1), kept, name), samples)

    def test_kept_silent_nodes_are_heard(self):
        one = project(node("a", silent=1, effects=(("limit", 5, 2),)), node("b", "a", source=None))
        self.assertEqual(rendered_by(one, ("a", "b"), (4,), (("a", (1, 2, 3, 4)),), "b"), (1, 2, 3, 4))
        self.assertEqual(rendered_by(one, ("a", "b"), (4,), (), "b"), (0,) * 4)

    def test_kept_rows_are_heard_by_arrivals(self):
        one = project(node("a"), node("b", effects=(("limit", BOUND, 2),)), node("c", "a", "b", source=None))
        kept = (("a", (100, 200, 300, 400)), ("b", (1, 2, 3, 4)))
        self.assertEqual(rendered_by(one, ("a", "b", "c"), (4,), kept, "c"), (1, 2, 103, 204))

    def test_600(self):
        order = some_order(ONE)
        for blocks in ((600,), (1,) * 600, (599, 1), (300, 300)):
            self.assertEqual(rendered_by(ONE, order, blocks, (), "b"), rendered(ONE, "b", 0, 600))

    def test_late_inputs_and_long_blocks(self):
        one = project(node("a", "b*"), node("b", "a*", source=None), node("c", "c*", "a*", effects=(("echo", 3, 100),)))
        for order in itertools.permutations("abc"):
            for blocks in ((40,), (1,) * 40, (7, 33)):
                for name, samples in Meaning(one).rows(40):
                    self.assertEqual(rendered_by(one, order, blocks, (), name), samples)


class Refused(unittest.TestCase):
    ORDER = ("c", "a", "b", "d")

    def test_blocks(self):
        for blocks in ODD + (
            0, 5, [5], (0,), (1, 0, 1), (601,), (600, 1), (1,) * 601, (300, 301), (-1,), (True,), (5, None), (5, "5"), ((5,),),
            (10 ** 11,), (-600, 600), (1, -1),
        ):
            refused(self, InvalidBlocks, blocks, rendered_by, ONE, self.ORDER, blocks, [], 0)

    def test_kept(self):
        two = (1, 2)
        wrong = ODD + (
            0, [], [("a", two)], (("a", (1,)),), (("a", (1, 2, 3)),), (("a", ()),), (("a", two), ("a", two)),
            (("a", two), ("a", (1, 3))), (("b", two), ("a", two)), (("e", two),), (("A", two),), (("a", two), ("e", two)),
            (("a", [1, 2]),), (("a", (BOUND + 1, 0)),), (("a", (0, -BOUND - 1)),), (("a", (True, 0)),), (("a", (0, None)),),
            (("a", two, 0),), (("a",),), ("a", two), (["a", two],), ((0, two),), ((None, two),), (("a", "12"),), (("a", None),),
            ((("a",), two),), (("a", two), None), (("a", two), ("b", two), ("c", two), ("d", two), ("e", two)), (("a", two), ()),
        )
        for kept in wrong:
            refused(self, InvalidKept, kept, rendered_by, ONE, self.ORDER, (1, 1), kept, 0)
        some = (("a", ()),)
        self.assertEqual(rendered_by(ONE, self.ORDER, (), some, "b"), ())
        for kept in ((("a", (0,)),), (("a", None),), (("a", []),), (("e", ()),)):
            refused(self, InvalidKept, kept, rendered_by, ONE, self.ORDER, (), kept, "a")
        at_bounds = (("a", (BOUND, -BOUND)),)
        self.assertEqual(rendered_by(ONE, self.ORDER, (2,), at_bounds, "a"), (BOUND, -BOUND))

    def test_names(self):
        for name in ODD + ("e", "", "A", 0, ("a",), ["a"]):
            refused(self, InvalidName, name, rendered_by, ONE, self.ORDER, (2,), (), name)

    def test_the_first_wrong_one_is_told(self):
        for odd in ODD:
            refused(self, InvalidOrder, odd, rendered_by, ONE, odd, odd, odd, odd)
            refused(self, InvalidBlocks, odd, rendered_by, ONE, self.ORDER, odd, odd, odd)
            refused(self, InvalidKept, odd, rendered_by, ONE, self.ORDER, (2,), odd, odd)
        refused(self, InvalidOrder, NAMES, rendered_by, ONE, NAMES, (2,), (), "a")


class Renderers(unittest.TestCase):
    def steps(self, renderer, pieces):
        """What the renderer tells in such pieces, as pairs of names and whole rows."""
        rows = {each[0]: () for each in renderer.project.nodes}
        for many in pieces:
            at = renderer.at
            told_rows = renderer.next(many)
            self.assertTrue(is_plain(told_rows))
            self.assertEqual([name for name, _ in told_rows], list(rows))
            for name, samples in told_rows:
                self.assertEqual(len(samples), many)
                rows[name] += samples
            self.assertEqual(renderer.at, at + many)
        return tuple(rows.items())

    def test_in_pieces(self):
        source = random.Random(54)
        for _ in range(20):
            one = some_project(source)
            expected = Meaning(one).rows(200)
            for pieces in ((200,), (1,) * 200, (3, 97, 100), (199, 1), (64, 64, 64, 8)):
                renderer = Renderer(one)
                self.assertIs(renderer.project, one)
                self.assertEqual(renderer.at, 0)
                self.assertEqual(self.steps(renderer, pieces), expected)

    def test_to_the_end(self):
        for pieces in ((600, 400), (400, 600), (1, 599, 400), (250,) * 4):
            for name, samples in self.steps(Renderer(ONE), pieces):
                self.assertEqual(samples, rendered(ONE, name, 0, 600) + rendered(ONE, name, 600, 1000))

    def test_by_name_of_the_argument(self):
        renderer = Renderer(project=ONE)
        self.assertEqual(renderer.next(many=2), Renderer(ONE).next(2))
        self.assertEqual(renderer.mark(), 0)
        self.assertIsNone(renderer.back(mark=0))

    def test_two_do_not_disturb_one_another(self):
        one, other = Renderer(ONE), Renderer(ONE)
        first = one.next(5)
        self.assertEqual(other.at, 0)
        self.assertEqual(other.next(5), first)
        mark = one.mark()
        refused(self, InvalidMark, mark, other.back, mark)
        later = one.next(7)
        self.assertEqual(other.next(7), later)

    def test_marks(self):
        whole = dict(Meaning(ONE).rows(60))
        renderer = Renderer(ONE)

        def hears(many):
            at = renderer.at
            self.assertEqual(dict(renderer.next(many)), {name: row[at:at + many] for name, row in whole.items()})

        self.assertEqual(renderer.mark(), 0)
        hears(10)
        self.assertEqual(renderer.mark(), 1)
        hears(20)
        self.assertEqual(renderer.mark(), 2)
        self.assertIsNone(renderer.back(1))
        self.assertEqual(renderer.at, 10)
        hears(3)
        self.assertEqual(renderer.mark(), 3)
        self.assertIsNone(renderer.back(2))
        self.assertEqual(renderer.at, 30)
        hears(30)
        for mark, at in ((3, 13), (0, 0), (2, 30), (1, 10), (1, 10), (3, 13)):
            self.assertIsNone(renderer.back(mark))
            self.assertEqual(renderer.at, at)
            hears(25)

    def test_back_at_random(self):
        source = random.Random(55)
        for _ in range(15):
            one = some_project(source)
            whole = Meaning(one).rows(120)
            renderer, at, marks = Renderer(one), 0, []
            for _ in range(40):
                deed = source.randrange(3)
                if deed == 0:
                    self.assertEqual(renderer.mark(), len(marks))
                    marks.append(at)
                elif deed == 1 and marks:
                    mark = source.randrange(len(marks))
                    self.assertIsNone(renderer.back(mark))
                    at = marks[mark]
                elif at < 120:
                    many = source.randrange(1, min(30, 120 - at) + 1)
                    self.assertEqual(renderer.next(many), tuple((name, row[at:at + many]) for name, row in whole))
                    at += many
                self.assertEqual(renderer.at, at)

    def refuses(self, renderer, error, call, value):
        """Sees that the call is refused, and that the renderer is as it was."""
        at = renderer.at
        refused(self, error, value, call, value)
        self.assertEqual(renderer.at, at)

    def test_refused_calls_change_nothing(self):
        renderer = Renderer(ONE)
        renderer.next(500)
        for value in ODD + (0, -1, 501, 600, 601, 1000, 10 ** 11, (1,)):
            self.refuses(renderer, InvalidNumber, renderer.next, value)
        for value in ODD + (0, 1, -1):
            self.refuses(renderer, InvalidMark, renderer.back, value)
        self.assertEqual(renderer.mark(), 0)
        renderer.next(500)
        self.assertEqual(renderer.mark(), 1)
        for value in ODD + (0, 1, 600):
            self.refuses(renderer, InvalidNumber, renderer.next, value)
        for value in ODD + (2, -1, -2, 10 ** 11, (0,), "0"):
            self.refuses(renderer, InvalidMark, renderer.back, value)
        renderer.back(0)
        self.assertEqual(dict(renderer.next(500))["b"], rendered(ONE, "b", 500, 1000))

    def test_numbers_at_the_beginning(self):
        for many in ODD + (0, 601, 1000, -1):
            self.refuses(Renderer(ONE), InvalidNumber, Renderer(ONE).next, many)
        self.assertEqual(len(Renderer(ONE).next(600)[0][1]), 600)
        self.assertEqual(len(Renderer(ONE).next(1)[0][1]), 1)

    def test_equal_to_itself_alone(self):
        one, other = Renderer(ONE), Renderer(ONE)
        self.assertTrue(one == one)
        self.assertFalse(one != one)
        for value in ODD + (other, ONE, 0):
            self.assertFalse(one == value)
            self.assertTrue(one != value)

    def test_not_iterable(self):
        with self.assertRaises(TypeError):
            iter(Renderer(ONE))
        with self.assertRaises(TypeError):
            next(Renderer(ONE))

    def test_errors_stand_under_studio_error(self):
        with self.assertRaises(StudioError):
            Renderer(ONE).next(0)
        with self.assertRaises(ValueError):
            Renderer(ONE).back(0)


if __name__ == "__main__":
    unittest.main()
