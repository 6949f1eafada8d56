"""[37] and [38] Steps, and copies that know them."""

import random
import unittest

from tests.helpers import ODD, PROJECT, calls_of, is_plain, nested, refused, shown, told, undefined
from tests.histories import TURNS, done_by_the_words, led, same, some_deed, some_steps
from tests.meaning import some_project
from tests.steps import A1, A2, A3, A4, B1, B2, FINE, NO_STAMPS, NOTES, ONE, no_steps
from trackloom.copies import Copy, off_of, project_of, void_of
from trackloom.errors import InvalidDeed, InvalidName, InvalidNumber, InvalidStamp, StudioError


class Led(unittest.TestCase):
    def holds(self, steps, before=ONE):
        kept = shown((before, steps))
        project, void, off = led(before, steps)
        self.assertTrue(same(project_of(before, steps), project))
        self.assertTrue(same(project_of(project=before, steps=steps), project))
        self.assertEqual(told(self, void_of, before, steps), void)
        self.assertEqual(told(self, off_of, before, steps), off)
        self.assertEqual(shown((before, steps)), kept)
        return project, void, off

    def test_by_hand(self):
        for steps, notes, void, off in (
            ((), "", (), ()),
            (((A1, NOTES[0]), (A2, NOTES[1])), "01", (), ()),
            (((A1, NOTES[0]), (A2, NOTES[0])), "0", (A2,), ()),
            (((A1, NOTES[0]), (A2, ("undo", A1))), "", (), (A1,)),
            (((A1, NOTES[0]), (A2, ("undo", A1)), (A3, ("redo", A1))), "0", (), ()),
            (((A1, NOTES[0]), (A2, ("undo", A1)), (A3, ("redo", A1)), (A4, ("undo", A1))), "", (), (A1,)),
            (((A1, NOTES[0]), (A2, ("undo", A1)), (A3, ("undo", A1)), (A4, ("redo", A1))), "0", (), ()),
            # A redo of what was not undone, and one ahead of the undo.
            (((A1, NOTES[0]), (A2, ("redo", A1))), "0", (), ()),
            (((A1, NOTES[0]), (A2, ("redo", A1)), (A3, ("undo", A1))), "", (), (A1,)),
            # Another's step, a step that comes later or at the same clock, an undo, itself, and what no step has.
            (((A1, NOTES[0]), (B2, ("undo", A1))), "0", (), ()),
            (((A1, ("undo", A2)), (A2, NOTES[0])), "0", (), ()),
            ((((1, "ann", 0), NOTES[0]), ((1, "ann", 1), ("undo", (1, "ann", 0)))), "0", (), ()),
            (((A1, NOTES[0]), (A2, ("undo", A1)), (A3, ("undo", A2))), "", (), (A1,)),
            (((A1, NOTES[0]), (A2, ("undo", A1)), (A3, ("redo", A2))), "", (), (A1,)),
            (((A1, ("undo", A1)),), "", (), ()),
            (((A2, NOTES[0]), (A3, ("undo", A1))), "0", (), ()),
            # A step of another life of the same person.
            ((((1, "ann", 0), NOTES[0]), ((2, "ann", 7), ("undo", (1, "ann", 0)))), "", (), ((1, "ann", 0),)),
            ((((1, "ann", 7), NOTES[0]), ((2, "ann", 0), ("undo", (1, "ann", 7)))), "", (), ((1, "ann", 7),)),
            # The one with the greatest stamp tells, also of two lives at one clock.
            (((A1, NOTES[0]), ((2, "ann", 0), ("redo", A1)), ((2, "ann", 1), ("undo", A1))), "", (), (A1,)),
            (((A1, NOTES[0]), ((2, "ann", 0), ("undo", A1)), ((2, "ann", 1), ("redo", A1))), "0", (), ()),
            # What cannot be done there, and can where another step is off.
            (((A1, NOTES[0]), (B1, NOTES[0]), (B2, ("unnote", "lead", NOTES[0][2]))), "", (B1,), ()),
            (((A1, NOTES[0]), (A2, ("undo", A1)), (B2, NOTES[0])), "0", (), (A1,)),
            (((A1, NOTES[0]), (B2, NOTES[0]), (A3, ("undo", A1))), "0", (), (A1,)),
            (((A1, ("unnode", "beat")), (B2, ("unnode", "lead")), (A3, ("undo", A1))), "", (B2,), (A1,)),
            (((A1, ("unnode", "lead")),), "", (A1,), ()),
            # A step that is off is not void.
            (((A1, ("unnode", "lead")), (A2, ("undo", A1))), "", (), (A1,)),
        ):
            project, told_void, told_off = self.holds(steps)
            part = dict((node[0], node[1]) for node in project.nodes).get("lead", ((), (), ()))[2]
            self.assertEqual(part, tuple((int(each), 1, 60, 100) for each in notes), steps)
            self.assertEqual((told_void, told_off), (void, off), steps)

    def test_drawn_steps(self):
        source = random.Random(381)
        voids = offs = 0
        for _ in range(80):
            before = some_project(source)
            _, void, off = self.holds(some_steps(source, before, source.choice((1, 5, 30))), before)
            voids += len(void)
            offs += len(off)
        self.assertGreater(voids, 50)
        self.assertGreater(offs, 50)

    def test_a_step_that_is_off_might_not_be_there(self):
        source = random.Random(382)
        for _ in range(40):
            before = some_project(source)
            steps = some_steps(source, before, 15)
            off = off_of(before, steps)
            left = tuple(step for step in steps if step[0] not in off)
            self.assertTrue(same(project_of(before, steps), project_of(before, left)))
            self.assertEqual(void_of(before, steps), void_of(before, left))

    def test_240_steps(self):
        steps = tuple(((clock, "ann", 0), ("silent", "lead", clock % 2)) for clock in range(1, 242))
        self.assertTrue(same(project_of(ONE, steps[:240]), done_by_the_words(ONE, ("silent", "lead", 0))))
        self.assertEqual(void_of(ONE, steps[:240]), ())
        for function in (project_of, void_of, off_of):
            refused(self, InvalidStamp, steps, function, ONE, steps)

    def test_rows_that_are_none(self):
        for steps in no_steps():
            for function in (project_of, void_of, off_of):
                refused(self, InvalidStamp, steps, function, ONE, steps)
        for steps in (FINE[:1] * 2, ((A1, NOTES[0]), (A1, NOTES[1])), ((A2, NOTES[0]), (A1, NOTES[1])), ((B1, NOTES[0]), (A1, NOTES[1])),
                      (((1, "ann", 1), NOTES[0]), ((1, "ann", 0), NOTES[1]))):
            for function in (project_of, void_of, off_of):
                refused(self, InvalidStamp, steps, function, ONE, steps)
        self.holds(FINE)
        self.holds((((1, "a", 0), NOTES[0]), ((999999, "abcdefgh", 99), NOTES[1])))
        self.holds(((A1, NOTES[0]), (B1, NOTES[1]), (A2, NOTES[2])))


class Copies(unittest.TestCase):
    def agrees(self, copy, first=ONE):
        """Sees that the copy has what its steps make of the first project."""
        project, void, off = led(first, copy.steps)
        self.assertTrue(same(copy.project, project))
        self.assertEqual((copy.void, copy.off), (void, off))
        self.assertTrue(is_plain(copy.steps) and is_plain(copy.void) and is_plain(copy.off))
        self.assertEqual(copy.steps, tuple(sorted(copy.steps, key=lambda step: step[0])))

    def state(self, copy):
        return shown((copy.person, copy.life, copy.steps, copy.project, copy.void, copy.off))

    def refuses(self, error, argument, copy, word, *arguments):
        kept = self.state(copy)
        refused(self, error, argument, getattr(copy, word), *arguments)
        self.assertEqual(self.state(copy), kept)

    def test_new_ones(self):
        copy = Copy("ann", 5, ONE)
        self.assertEqual((copy.person, copy.life, copy.steps, copy.void, copy.off), ("ann", 5, (), (), ()))
        self.assertTrue(same(copy.project, ONE))
        other = Copy(person="ann", life=5, project=ONE)
        self.assertEqual(copy, copy)
        self.assertNotEqual(copy, other)
        for function in (iter, list):
            with self.assertRaises(TypeError):
                function(copy)

    def test_names_and_lives(self):
        for name in ODD + ("", "A", "abcdefghi", "a1", 0, ("a",), ["a"]):
            if name in ("flat", "ramp", "saw"):
                continue
            refused(self, InvalidName, name, Copy, name, -1, ONE)
        for life in ODD + (-1, 100, "0", 10 ** 11):
            refused(self, InvalidNumber, life, Copy, "abcdefgh", life, ONE)
        self.assertEqual(Copy("a", 99, ONE).do(NOTES[0])[0], (1, "a", 99))

    def test_deeds(self):
        copy = Copy("ann", 3, ONE)
        self.assertEqual(copy.do(NOTES[0]), ((1, "ann", 3), NOTES[0]))
        self.assertEqual(copy.do(deed=NOTES[1]), ((2, "ann", 3), NOTES[1]))
        self.assertEqual(copy.do(NOTES[1]), ((3, "ann", 3), NOTES[1]))
        self.assertEqual(copy.void, ((3, "ann", 3),))
        self.assertEqual(copy.do(("unnode", "nobody")), ((4, "ann", 3), ("unnode", "nobody")))
        self.assertEqual(copy.void, ((3, "ann", 3), (4, "ann", 3)))
        self.agrees(copy)
        for value in ODD + (("undo", (1, "ann", 3)), ("redo", (1, "ann", 3)), ("note", "lead"), list(NOTES[0]), (), ("silent", "lead", True)):
            self.refuses(InvalidDeed, value, copy, "do", value)

    def test_clocks(self):
        copy = Copy("ann", 0, ONE)
        copy.hear((((7, "bob", 0), NOTES[0]), ((5, "zoe", 9), NOTES[1])))
        self.assertEqual(copy.do(NOTES[2])[0], (8, "ann", 0))
        copy.hear((((900000, "bob", 0), NOTES[3]),))
        self.assertEqual(copy.do(NOTES[4])[0], (900001, "ann", 0))
        copy.hear((((20, "bob", 0), NOTES[5]),))
        self.assertEqual(copy.do(NOTES[6])[0], (900002, "ann", 0))
        self.agrees(copy)

    def test_undo_and_redo(self):
        copy = Copy("ann", 0, ONE)
        for deed in NOTES[:3]:
            copy.do(deed)
        self.assertEqual(copy.undo((2, "ann", 0)), ((4, "ann", 0), ("undo", (2, "ann", 0))))
        self.assertEqual(copy.off, ((2, "ann", 0),))
        self.agrees(copy)
        self.refuses(InvalidStamp, A2, copy, "undo", A2)
        self.refuses(InvalidStamp, A1, copy, "redo", A1)
        self.assertEqual(copy.redo(stamp=(2, "ann", 0)), ((5, "ann", 0), ("redo", (2, "ann", 0))))
        self.assertEqual(copy.off, ())
        self.refuses(InvalidStamp, A2, copy, "redo", A2)
        self.assertEqual(copy.undo(stamp=A2)[0], (6, "ann", 0))
        self.agrees(copy)

    def test_what_cannot_be_undone(self):
        copy = Copy("ann", 1, ONE)
        copy.do(NOTES[0])
        copy.hear((((2, "bob", 0), NOTES[1]), ((3, "ann", 0), NOTES[2]), ((4, "ann", 0), ("undo", (3, "ann", 0)))))
        for stamp in NO_STAMPS + ((2, "bob", 0), (4, "ann", 0), (9, "ann", 0), (1, "ann", 0), (1, "bob", 1), (3, "ann", 1)):
            self.refuses(InvalidStamp, stamp, copy, "undo", stamp)
            self.refuses(InvalidStamp, stamp, copy, "redo", stamp)
        # A step of another life is its person's, too.
        self.assertEqual(copy.redo((3, "ann", 0)), ((5, "ann", 1), ("redo", (3, "ann", 0))))
        self.agrees(copy)
        for stamp in ((True, "ann", 1), (1, "ann", True)):
            self.refuses(InvalidStamp, stamp, copy, "undo", stamp)
        self.assertEqual(copy.undo((1, "ann", 1))[0], (6, "ann", 1))
        self.agrees(copy)

    def test_what_others_undid_is_not_done_again(self):
        copy = Copy("ann", 0, ONE)
        copy.hear(((B1, NOTES[1]), (B2, ("undo", B1))))
        self.assertEqual(copy.off, (B1,))
        self.refuses(InvalidStamp, B1, copy, "redo", B1)
        self.refuses(InvalidStamp, B1, copy, "undo", B1)

    def test_a_void_step_can_be_undone(self):
        copy = Copy("ann", 0, ONE)
        copy.do(("unnode", "nobody"))
        copy.undo(A1)
        self.assertEqual((copy.void, copy.off), ((), (A1,)))
        copy.redo(A1)
        self.assertEqual((copy.void, copy.off), ((A1,), ()))

    def test_back(self):
        copy = Copy("ann", 0, ONE)
        undefined(self, "undo", copy.back)
        copy.hear(((B1, NOTES[9]),))
        undefined(self, "undo", copy.back)
        for deed in NOTES[:3]:
            copy.do(deed)
        copy.hear((((9, "bob", 0), NOTES[8]),))
        self.assertEqual(copy.back()[1], ("undo", (4, "ann", 0)))
        self.assertEqual(copy.back()[1], ("undo", (3, "ann", 0)))
        copy.redo((4, "ann", 0))
        self.assertEqual(copy.back()[1], ("undo", (4, "ann", 0)))
        self.assertEqual(copy.back()[1], ("undo", (2, "ann", 0)))
        kept = self.state(copy)
        undefined(self, "undo", copy.back)
        self.assertEqual(self.state(copy), kept)
        self.agrees(copy)

    def test_back_to_steps_of_other_lives(self):
        copy = Copy("ann", 2, ONE)
        copy.hear((((5, "ann", 0), NOTES[0]), ((5, "ann", 1), NOTES[1])))
        self.assertEqual(copy.back(), ((6, "ann", 2), ("undo", (5, "ann", 1))))
        self.assertEqual(copy.back(), ((7, "ann", 2), ("undo", (5, "ann", 0))))
        undefined(self, "undo", copy.back)

    def test_hear(self):
        steps = ((A1, NOTES[0]), (B1, NOTES[1]), (A2, ("undo", A1)), (B2, NOTES[2]))
        copy = Copy("zoe", 0, ONE)
        self.assertEqual(copy.hear(()), 0)
        self.assertEqual(copy.hear((steps[3], steps[0])), 2)
        self.assertEqual(copy.steps, (steps[0], steps[3]))
        self.assertEqual(copy.hear(steps=steps), 2)
        self.assertEqual(copy.hear(steps), 0)
        self.assertEqual(copy.hear(steps[::-1] + steps), 0)
        self.assertEqual(copy.steps, steps)
        self.assertEqual(copy.hear((((7, "bob", 0), NOTES[5]),) * 3 + steps), 1)
        self.agrees(copy)

    def test_what_is_not_heard(self):
        copy = Copy("ann", 0, ONE)
        copy.do(NOTES[0])
        for steps in no_steps():
            self.refuses(InvalidStamp, steps, copy, "hear", steps)
        for steps in (((A1, NOTES[1]),), ((A2, NOTES[1]), (A1, NOTES[1])), ((B1, NOTES[1]), (B1, NOTES[2])), ((B1, NOTES[1]), (A1, ("undo", B1)))):
            self.refuses(InvalidStamp, steps, copy, "hear", steps)
        self.assertEqual(copy.hear(((A1, NOTES[0]),)), 0)

    def test_hear_more_than_240(self):
        """How many are heard at once is not bound."""
        steps = tuple(((clock, "bob", 0), ("silent", "lead", 1)) for clock in range(1, 251))
        copy = Copy("ann", 0, ONE)
        self.assertEqual(copy.hear(steps), 250)
        self.assertEqual(copy.do(NOTES[0])[0], (251, "ann", 0))

    def test_any_order(self):
        source = random.Random(383)
        for _ in range(40):
            first = some_project(source)
            steps = some_steps(source, first, 25)
            copies = []
            for _ in range(3):
                copy = Copy("zoe", 0, first)
                left = list(steps)
                source.shuffle(left)
                while left:
                    many = source.randrange(1, 7)
                    copy.hear(tuple(left[:many]))
                    left = left[many:]
                    if source.randrange(4) == 0:
                        self.agrees(copy, first)
                copies.append(copy)
            for copy in copies:
                self.assertEqual(copy.steps, steps)
                self.agrees(copy, first)

    def test_drawn_calls(self):
        source = random.Random(384)
        for _ in range(25):
            first = some_project(source)
            copies = [Copy(name, life, first) for name, life in (("ann", 0), ("bob", 0), ("ann", 1))]
            for _ in range(40):
                copy = source.choice(copies)
                self.one_call(source, copy)
                self.agrees(copy, first)
            everything = tuple({step[0]: step for copy in copies for step in copy.steps}.values())
            for copy in copies:
                copy.hear(everything)
                self.agrees(copy, first)
            for copy in copies[1:]:
                self.assertEqual((copy.steps, copy.void, copy.off), (copies[0].steps, copies[0].void, copies[0].off))
                self.assertTrue(same(copy.project, copies[0].project))

    def one_call(self, source, copy):
        kind = source.randrange(6)
        before = self.state(copy)
        own = [stamp for stamp, deed in copy.steps if stamp[1] == copy.person and deed[0] not in TURNS]
        try:
            if kind < 2 or not own:
                step = copy.do(some_deed(source, copy.project))
            elif kind == 2:
                step = copy.undo(stamp := source.choice(own))
                self.assertIn(stamp, copy.off)
            elif kind == 3:
                step = copy.redo(stamp := source.choice(own))
                self.assertNotIn(stamp, copy.off)
            elif kind == 4:
                step = copy.back()
            else:
                self.hear_of(source, copy)
                return
        except StudioError:
            self.assertEqual(self.state(copy), before)
            return
        self.assertEqual(step[0], (max(stamp[0] for stamp, _ in copy.steps), copy.person, copy.life))
        self.assertEqual(copy.steps[-1], step)

    def hear_of(self, source, copy):
        clock = source.randrange(1, 60)
        teller = f"to{copy.person}"
        steps = tuple(((clock + k, teller, copy.life), some_deed(source, copy.project)) for k in range(2))
        known = dict(copy.steps)
        if all(known.get(stamp, deed) == deed for stamp, deed in steps):
            self.assertEqual(copy.hear(steps), len([1 for stamp, _ in steps if stamp not in known]))

    def test_copies_do_not_disturb_one_another(self):
        one, other = Copy("ann", 0, ONE), Copy("ann", 0, ONE)
        one.do(NOTES[0])
        self.assertEqual(other.steps, ())
        self.assertTrue(same(other.project, ONE))

    def test_120_steps(self):
        copy = Copy("ann", 0, ONE)
        for k in range(60):
            copy.hear((((2 * k + 1, "bob", 0), ("note", "lead", (k, 2, 50, 9))),))
            copy.do(("note", "lead", (k, 3, 50, 9))) if k % 3 else copy.do(("bend", "beat", k, k))
        self.assertEqual(len(copy.steps), 120)
        self.agrees(copy)
        for stamp, _ in copy.steps[:60]:
            if stamp[1] == "ann":
                copy.undo(stamp)
        self.agrees(copy)

    def test_a_step_behind_all_others_does_none_of_them_again(self):
        copy = Copy("ann", 0, ONE)
        few = calls_of(copy.do, NOTES[0])
        copy.hear(tuple(((clock, "bob", 0), ("node", ("x", None, (("wait", clock),) * 6, (), ((0, clock),), 0))) for clock in range(2, 120)))
        self.assertLess(calls_of(copy.do, NOTES[1]), few + 500)

    def test_deeply_nested_values_are_refused(self):
        copy = Copy("ann", 0, ONE)
        for value in (nested(tuple, 60), nested(list, 60), ("undo", nested(tuple, 59)), PROJECT):
            self.refuses(InvalidDeed, value, copy, "do", value)
            self.refuses(InvalidStamp, value, copy, "hear", value)


if __name__ == "__main__":
    unittest.main()
