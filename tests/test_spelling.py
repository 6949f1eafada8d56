"""[35] Spelling."""

import random
import unittest

from tests.helpers import METRE, ODD, PROJECT, nested, refused, told, warped
from trackloom.barring import Metre, place_of
from trackloom.errors import InvalidPart, InvalidText
from trackloom.parts import is_part
from trackloom.spelling import part_of, spelled

MIXED = Metre(((0, 4), (2, 3), (5, 1), (6, 15)))
SHORT = Metre(((0, 1),))
LETTERS = ("c", "c#", "d", "d#", "e", "f", "f#", "g", "g#", "a", "a#", "b")
FULL = tuple(sorted((k * 37 % 2001, 1 + k * 5 % 500, k % 128, 127 - k) for k in range(100)))


def line(note, metre):
    tick, length, pitch, force = note
    bar, beat, rest = place_of(metre, tick)
    return f"{bar + 1}.{beat + 1}.{rest} {length} {LETTERS[pitch % 12]}{pitch // 12} {force}"


def some_part(source):
    notes = {(source.choice((0, 1, 23, 24, 96, 500, 2000, source.randrange(2001))), source.choice((1, 24, 500)),
              source.randrange(128), source.choice((1, 127))) for _ in range(source.choice((0, 1, 2, 10, 60)))}
    return tuple(sorted(notes))


class ByHand(unittest.TestCase):
    def test_four_beats(self):
        for part, text in (
            ((), ""), (((0, 24, 60, 100),), "1.1.0 24 c5 100"), (((0, 1, 0, 1), (0, 1, 11, 1), (0, 1, 12, 1)), "1.1.0 1 c0 1\n1.1.0 1 b0 1\n1.1.0 1 c1 1"),
            (((23, 500, 127, 127),), "1.1.23 500 g10 127"), (((24, 5, 61, 9), (95, 5, 70, 9), (96, 5, 66, 9)), "1.2.0 5 c#5 9\n1.4.23 5 a#5 9\n2.1.0 5 f#5 9"),
            (((2000, 10, 3, 10),), "21.4.8 10 d#0 10"),
        ):
            self.assertEqual(told(self, spelled, part, METRE), text)
            self.assertEqual(told(self, part_of, text, METRE), part)

    def test_bars_of_several_lengths(self):
        part = ((191, 1, 2, 3), (192, 1, 2, 3), (263, 1, 2, 3), (264, 1, 2, 3), (408, 1, 2, 3), (432, 1, 2, 3), (791, 1, 2, 3), (792, 1, 2, 3))
        text = "\n".join(f"{place} 1 d0 3" for place in (
            "2.4.23", "3.1.0", "3.3.23", "4.1.0", "6.1.0", "7.1.0", "7.15.23", "8.1.0",
        ))
        self.assertEqual(told(self, spelled, part, MIXED), text)
        self.assertEqual(told(self, part_of, text, MIXED), part)

    def test_all_pitches(self):
        for pitch in range(128):
            text = f"1.1.0 1 {LETTERS[pitch % 12]}{pitch // 12} 1"
            self.assertEqual(spelled(((0, 1, pitch, 1),), METRE), text)
            self.assertEqual(part_of(text, METRE), ((0, 1, pitch, 1),))

    def test_100_notes(self):
        self.assertTrue(is_part(FULL))
        for metre in (METRE, MIXED, SHORT):
            text = told(self, spelled, FULL, metre)
            self.assertEqual(text, "\n".join(line(note, metre) for note in FULL))
            self.assertEqual(told(self, part_of, text, metre), FULL)


class ThereAndBack(unittest.TestCase):
    def test_drawn_parts(self):
        source = random.Random(361)
        for _ in range(150):
            part = some_part(source)
            for metre in (METRE, MIXED, SHORT):
                text = spelled(part, metre)
                self.assertEqual(text, "\n".join(line(note, metre) for note in part))
                self.assertEqual(part_of(text, metre), part)


class Refused(unittest.TestCase):
    def test_parts_that_are_none(self):
        fine = ((0, 24, 60, 100),)
        for value in ODD + (
            0, [], [(0, 24, 60, 100)], fine * 2, ((1, 1, 1, 1), (0, 1, 1, 1)), ((2001, 1, 1, 1),), ((0, 0, 1, 1),), ((0, 501, 1, 1),),
            ((0, 1, 128, 1),), ((0, 1, 1, 0),), ((0, 1, 1, 128),), ((0, 1, 1),), tuple((k, 1, 1, 1) for k in range(101)), (PROJECT,),
        ) + tuple(warped(fine)):
            refused(self, InvalidPart, value, spelled, value, METRE)

    def test_values_that_are_no_texts(self):
        for value in ODD + (0, (), None, ["1.1.0 24 c5 100"], ("1.1.0 24 c5 100",), b"1.1.0 24 c5 100", nested(tuple, 4)):
            if value == "" and isinstance(value, str):
                self.assertEqual(part_of(value, METRE), ())
            else:
                refused(self, InvalidText, value, part_of, value, METRE)

    def test_texts_that_are_no_spelling(self):
        fine = "1.1.0 24 c5 100"
        self.assertEqual(part_of(fine, METRE), ((0, 24, 60, 100),))
        for text in (
            " ", "\n", fine + "\n", "\n" + fine, fine + "\n\n1.2.0 24 c5 100", fine + "\n" + fine, fine + " ", " " + fine, fine + "\r", fine + "\t",
            "1.2.0 24 c5 100\n" + fine, "1.1.0 24 d5 100\n" + fine, fine + " 1", "1.1.0 24 c5", "1.1.0  24 c5 100", "1.1.0\t24 c5 100", "1.1 24 c5 100",
            "1.1.0.0 24 c5 100", "1,1,0 24 c5 100", "01.1.0 24 c5 100", "1.01.0 24 c5 100", "1.1.00 24 c5 100", "1.1.0 024 c5 100", "1.1.0 24 c05 100",
            "1.1.0 24 c5 0100", "+1.1.0 24 c5 100", "-1.1.0 24 c5 100", "1.1.-0 24 c5 100", "0.1.0 24 c5 100", "1.0.0 24 c5 100", "1.5.0 24 c5 100",
            "1.1.24 24 c5 100", "1.1.0 0 c5 100", "1.1.0 501 c5 100", "1.1.0 24 g#10 100", "1.1.0 24 c11 100", "1.1.0 24 c5 0", "1.1.0 24 c5 128",
            "21.4.9 24 c5 100", "22.1.0 24 c5 100", "2002.1.0 24 c5 100", "999999999999.1.0 24 c5 100", "1.1.0 24 C5 100", "1.1.0 24 h5 100",
            "1.1.0 24 e#5 100", "1.1.0 24 b#5 100", "1.1.0 24 db5 100", "1.1.0 24 c##5 100", "1.1.0 24 c 100", "1.1.0 24 5 100", "1.1.0 24 60 100",
            "1.1.0 24 c-1 100", "1.1.0 24 #5 100", "1.1.0 24 c# 100", "1.1.0 24 c 5 100", "1.1.0 24 c5# 100", "1.1.0 24 5c 100", "..", "1.1.0", "a.b.c d e f", "1.1. 24 c5 100",
            "1.1.0 24 c\u0665 100", "\u0661.1.0 24 c5 100", "1.1.0 2_4 c5 100", "1.1.0 24.0 c5 100", "1.1.0 " + "9" * 3000 + " c5 100", "   ", "\n\n",
            "1.1.0 24 c5 100\n1.1.0 24 b4 100", "1.1.0 24 c5 100\n1.1.0 23 c6 100",
        ):
            refused(self, InvalidText, text, part_of, text, METRE)

    def test_beats_and_rests_that_the_bar_does_not_have(self):
        for text, fine in (
            ("3.3.23 1 c0 1", True), ("3.4.0 1 c0 1", False), ("6.1.23 1 c0 1", True), ("6.2.0 1 c0 1", False), ("7.15.0 1 c0 1", True),
            ("7.16.0 1 c0 1", False), ("2.4.0 1 c0 1", True), ("2.5.0 1 c0 1", False), ("3.3.24 1 c0 1", False),
        ):
            if fine:
                self.assertEqual(spelled(part_of(text, MIXED), MIXED), text)
            else:
                refused(self, InvalidText, text, part_of, text, MIXED)

    def test_101_lines(self):
        text = "\n".join(line((k, 1, 60, 1), METRE) for k in range(101))
        refused(self, InvalidText, text, part_of, text, METRE)
        text = "\n".join(line((k, 1, 60, 1), METRE) for k in range(100))
        self.assertEqual(len(part_of(text, METRE)), 100)

    def test_another_metres_spelling(self):
        part = ((0, 1, 2, 3), (30, 1, 2, 3), (100, 1, 2, 3))
        text = spelled(part, METRE)
        refused(self, InvalidText, text, part_of, text, SHORT)
        self.assertNotEqual(part_of(spelled(part, SHORT), METRE), part)
        self.assertEqual(part_of("2.1.0 1 d0 3", METRE), ((96, 1, 2, 3),))
        self.assertEqual(part_of("2.1.0 1 d0 3", SHORT), ((24, 1, 2, 3),))

    def test_each_change_of_a_spelling_is_another_part_or_none(self):
        text = spelled(((0, 24, 60, 100), (30, 5, 61, 9), (192, 7, 127, 127)), MIXED)
        for at in range(len(text)):
            for other in [text[:at] + text[at + 1:]] + [text[:at] + sign + text[at + more:] for sign in "0159. #cg\n" for more in (0, 1)]:
                try:
                    part = part_of(other, MIXED)
                except InvalidText:
                    continue
                self.assertEqual(spelled(part, MIXED), other)


if __name__ == "__main__":
    unittest.main()
