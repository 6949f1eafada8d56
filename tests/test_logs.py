"""[39] Logs."""

import random
import unittest

from tests.helpers import ODD, PROJECT, refused, told, warped
from tests.histories import log_of, record_of, record_of_text, same, some_steps, text_of
from tests.meaning import LEVEL, some_project
from tests.steps import A1, A2, A3, B1, FINE, NOTES, no_steps
from tests.streams import check_bit_by_bit, in_bytes
from trackloom.copies import project_of
from trackloom.errors import InvalidBytes, InvalidStamp
from trackloom.logs import logged, recovered, tidied
from trackloom.tones import even_tuning
from trackloom.writing import written

PART = tuple(sorted((1900 + k, 500 - k, 100 + k % 28, 127) for k in range(100)))
CURVE = tuple((1900 + k, -1024 + k) for k in range(40))
CLIPS = tuple(("abcdefgh", 20000 - k, 2000, -100000, (-8, 8), -1024, (4000, 4000), (4000, 4000)) for k in range(8))[::-1]
LONGEST = (
    ("sound", "abcdefgh", (-32768,) * 600),
    ("node", ("abcdefgh", ("tone", (("table", (-32767,) * 16), even_tuning(), (2000, 2000, 256, 2000), 8), PART),
              (("mix", (-256,) * 8),) * 6, tuple(("abcdefgh", -1024 + k, "late") for k in range(6)), CURVE, 1)),
    ("node", ("abcdefgh", ("clips", CLIPS), (("limit", 8388607, 32),) * 6, (), CURVE, 1)),
    ("paces", tuple((50 * k, 399, "ramp") for k in range(39)) + ((2000, 400, "flat"),)),
    ("merge", "abcdefgh", CLIPS[0], CLIPS[1]),
)


class Logged(unittest.TestCase):
    def test_by_hand(self):
        self.assertEqual(told(self, logged, ()), ())
        text = '((1, "ann", 0), ("unnode", "lead"))'
        step = ((1, "ann", 0), ("unnode", "lead"))
        self.assertEqual(text_of(step), text)
        self.assertEqual(told(self, logged, (step,)), record_of_text(text))
        self.assertEqual(logged((step,))[:5], (0, 0, 35, 40, 40))
        undo = ((2, "ann", 0), ("undo", (1, "ann", 0)))
        self.assertEqual(told(self, logged, (undo, step, undo)), record_of(undo) + record_of(step) + record_of(undo))

    def test_longest_steps(self):
        for number, deed in enumerate(LONGEST):
            step = ((999999, "abcdefgh", 99), deed)
            log = told(self, logged, (step,))
            self.assertEqual(log, record_of(step))
            self.assertEqual(written(step), text_of(step))
            self.assertEqual(told(self, recovered, log), ((step,), len(log)))

    def test_240_steps(self):
        steps = tuple(((clock, "ann", 0), NOTES[clock % 30]) for clock in range(241))[1:]
        self.assertEqual(logged(steps), log_of(steps))
        self.assertEqual(recovered(logged(steps)), (steps, len(logged(steps))))
        many = steps + (((300, "ann", 0), NOTES[0]),)
        refused(self, InvalidStamp, many, logged, many)
        refused(self, InvalidStamp, many, tidied, many)
        self.assertEqual(recovered(log_of(many)), (many, len(log_of(many))))

    def test_a_great_log(self):
        steps = tuple(((clock, "ann", 0), ("sound", "drum", (-32768 + clock,) * 600)) for clock in range(1, 101))
        log = logged(steps)
        self.assertGreater(len(log), 480000)
        self.assertEqual(recovered(log), (steps, len(log)))

    def test_steps_in_any_order(self):
        for steps in (FINE, FINE[::-1], FINE + FINE, ((A1, NOTES[0]), (A1, NOTES[1]))):
            self.assertEqual(told(self, logged, steps), log_of(steps))

    def test_refused(self):
        for steps in no_steps():
            refused(self, InvalidStamp, steps, logged, steps)
            refused(self, InvalidStamp, steps, tidied, steps)


class Recovered(unittest.TestCase):
    STEPS = ((B1, ("silent", "lead", 1)), (A2, ("undo", A1)), (A1, NOTES[0]))

    def ends(self, steps):
        return [len(log_of(steps[:many])) for many in range(len(steps) + 1)]

    def test_cut_at_every_byte(self):
        log = log_of(self.STEPS)
        ends = self.ends(self.STEPS)
        for many in range(len(log) + 1):
            whole = max(at for at in range(4) if ends[at] <= many)
            self.assertEqual(told(self, recovered, log[:many]), (self.STEPS[:whole], ends[whole]))

    def test_drawn_logs(self):
        source = random.Random(391)
        for _ in range(30):
            project = some_project(source)
            steps = list(some_steps(source, project, 12))
            source.shuffle(steps)
            steps = tuple(steps)
            log = logged(steps)
            self.assertEqual(log, log_of(steps))
            ends = self.ends(steps)
            many = source.randrange(len(log) + 1)
            whole = max(at for at in range(len(ends)) if ends[at] <= many)
            self.assertEqual(recovered(log[:many]), (steps[:whole], ends[whole]))

    def test_a_byte_changed(self):
        log = log_of(self.STEPS)
        ends = self.ends(self.STEPS)
        for at in range(len(log)):
            behind = max(number for number in range(4) if ends[number] <= at)
            for value in {log[at] ^ 1, log[at] ^ 128, 0, 255} - {log[at]}:
                changed = log[:at] + (value,) + log[at + 1:]
                self.assertEqual(recovered(changed), (self.STEPS[:behind], ends[behind]))

    def test_up_to_sixteen_neighbouring_bits(self):
        """Of the characters and the check of one record: its length stays."""
        source = random.Random(392)
        log = log_of(self.STEPS)
        ends = self.ends(self.STEPS)
        for number in range(3):
            first, last = ends[number] + 3, ends[number + 1]
            bits = "".join(f"{byte:08b}" for byte in log[first:last])
            for at in range(len(bits)):
                many = min(source.randrange(1, 17), len(bits) - at)
                mask = source.randrange(1, 2 ** many)
                changed = bits[:at] + f"{int(bits[at:at + many], 2) ^ mask:0{many}b}" + bits[at + many:]
                row = log[:first] + tuple(int(changed[k:k + 8], 2) for k in range(0, len(changed), 8)) + log[last:]
                self.assertEqual(recovered(row), (self.STEPS[:number], ends[number]))

    def test_a_record_left_out_or_doubled(self):
        one, two, three = map(record_of, self.STEPS)
        self.assertEqual(recovered(one + three), ((self.STEPS[0], self.STEPS[2]), len(one + three)))
        self.assertEqual(recovered(one + one), ((self.STEPS[0],) * 2, len(one + one)))
        self.assertEqual(recovered(two[1:] + one), ((), 0))

    def test_a_right_record_behind_a_damaged_one(self):
        one, two, three = map(record_of, self.STEPS)
        for damaged in (two[:-1], two[1:], two[:9] + (two[9] ^ 4,) + two[10:], two[:-1] + (two[-1] ^ 1,), (0, 0, 0), (0, 0, 0, 255, 255), (7,)):
            self.assertEqual(recovered(one + damaged + three), (self.STEPS[:1], len(one)))

    def test_a_first_record_that_is_damaged(self):
        one = record_of(self.STEPS[0])
        for row in (one[:-2] + (one[-2] ^ 1, one[-1]), one[:-1], one[:-1] + (one[-1] ^ 255,), (one[0] ^ 1,) + one[1:], one[:2] + (one[2] + 1,) + one[3:] + (0,),
                    (255, 255, 255), (0, 0, 1), (0, 0), (0,), (0, 0, 0, 255, 255), one[:3], (0,) * 9):
            self.assertEqual(told(self, recovered, row), ((), 0))

    def test_a_whole_step_in_a_record_that_is_not_whole(self):
        """The check of what is there is 0, as that of the nothing that stands for the check itself would be."""
        text = '((1377, "ann", 0), ("unnode", "lead"))'
        row = in_bytes(len(text) + 55, 3) + tuple(text.encode("ascii"))
        self.assertEqual(check_bit_by_bit(row), 0)
        self.assertEqual(recovered(row), ((), 0))

    def test_writings_that_are_no_steps(self):
        fine = record_of(self.STEPS[0])
        for text in (
            "", "none", "()", "1", '"a"', '((1, "ann", 0))', '((1, "ann", 0), ("unnode", "lead"), 1)', '((0, "ann", 0), ("unnode", "lead"))',
            '((1, "ann", 100), ("unnode", "lead"))', '((1, "Ann", 0), ("unnode", "lead"))', '((1, "ann", 0), ("unnode", "Lead"))',
            '((1, "ann", 0), ("undo", (0, "ann", 0)))', '((1, "ann", 0), ("silent", "lead", 2))', '((1, "ann", 0),("unnode", "lead"))',
            ' ((1, "ann", 0), ("unnode", "lead"))', '((01, "ann", 0), ("unnode", "lead"))', '((1, "ann", 0), ("unnode", "lead")',
            '((1, "ann", 0), ("unnode", "lead"))\n', '((1, "ann", 0), ("none", "lead"))', "(" * 41 + ")" * 41, '((1, "a%n", 0), ("unnode", "lead"))',
        ):
            self.assertEqual(recovered(record_of_text(text)), ((), 0))
            self.assertEqual(recovered(fine + record_of_text(text) + fine), (self.STEPS[:1], len(fine)))

    def test_bytes_that_are_no_signs(self):
        step = '((1, "ann", 0), ("unnode", "lead"))'
        self.assertEqual(len(recovered(record_of_text(step))[0]), 1)
        for sign in ("\x00", "\x7f", "\t", "\n", "\\", "'", "%", "A", "{", "`"):
            self.assertEqual(recovered(record_of_text(step.replace("d", sign))), ((), 0))

    def test_refused(self):
        for value in tuple(value for value in ODD if value != (0,) * 9) + (
            0, [], [1], (256,), (-1,), (1, True), (None,), ("1",), ((),), "ab", b"ab", list(record_of(self.STEPS[0])), (PROJECT,),
        ) + tuple(warped((84, 76))):
            refused(self, InvalidBytes, value, recovered, value)
        self.assertEqual(recovered(()), ((), 0))
        self.assertEqual(recovered((0,) * 30000), ((), 0))


class Tidied(unittest.TestCase):
    def test_by_hand(self):
        one, two, three = (A1, NOTES[0]), (B1, NOTES[1]), (A2, ("undo", A1))
        for steps, expected in (
            ((), ()), ((one,), (one,)), ((three, one, two), (one, two, three)), ((one, one, two, one), (one, two)),
            ((two, three, two, one, three), (one, two, three)),
        ):
            self.assertEqual(told(self, tidied, steps), expected)

    def test_two_unlike_ones_with_one_stamp(self):
        for steps in (((A1, NOTES[0]), (A1, NOTES[1])), ((A1, NOTES[0]), (A2, NOTES[0]), (A1, ("undo", A2))), ((A3, ("undo", A1)), (A3, ("redo", A1)))):
            refused(self, InvalidStamp, steps, tidied, steps)

    def test_the_same_project(self):
        source = random.Random(393)
        for _ in range(20):
            project = some_project(source)
            steps = some_steps(source, project, 15)
            shuffled = list(steps + steps[::3])
            source.shuffle(shuffled)
            self.assertEqual(told(self, tidied, tuple(shuffled)), steps)
            self.assertTrue(same(project_of(project, tidied(tuple(shuffled))), project_of(project, steps)))
            self.assertEqual(tidied(recovered(logged(tuple(shuffled)))[0]), steps)

    def test_longest(self):
        steps = tuple(((clock, "abcdefgh", 99), LONGEST[clock % len(LONGEST)]) for clock in range(240, 0, -1))
        self.assertEqual(tidied(steps), steps[::-1])


class Level(unittest.TestCase):
    def test_none_is_written_too(self):
        step = (A1, ("node", ("a", None, (), (), LEVEL, 0)))
        self.assertEqual(recovered(logged((step,))), ((step,), len(log_of((step,)))))


if __name__ == "__main__":
    unittest.main()
