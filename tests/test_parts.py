"""[7] and [8] Parts."""

import random
import unittest

from tests.helpers import ODD, nested, refused, refuses_numbers, told, undefined, warped
from trackloom.errors import InvalidNumber, InvalidPart
from trackloom.pacing import Tempo
from trackloom.parts import cut, is_part, joined, moved, raised, repeated, snapped, sounding
from trackloom.tones import even_tuning, played

SMALL = ((0, 10, 60, 100), (4, 3, 62, 90), (4, 20, 60, 100), (12, 1, 127, 127), (30, 500, 0, 1))
EDGE = ((0, 1, 0, 1), (2000, 500, 127, 127))
FULL = tuple((k, 5, 60, 1 + k) for k in range(100))
PARTS = ((), SMALL, EDGE, FULL)
NO_PARTS = (
    ((-1, 1, 0, 1),), ((2001, 1, 0, 1),), ((0, 0, 0, 1),), ((0, 501, 0, 1),), ((0, 1, -1, 1),), ((0, 1, 128, 1),),
    ((0, 1, 0, 0),), ((0, 1, 0, 128),), ((0, 1, 0),), ((0, 1, 0, 1, 1),), ((),), (0, 1, 0, 1), SMALL[::-1],
    SMALL[:1] * 2, SMALL + SMALL[-1:], FULL + ((200, 1, 0, 1),), list(SMALL), [], {}, SMALL[1:2] + SMALL[:1],
    ((0, 1, 0, 2), (0, 1, 0, 1)),
)


def some_part(source, most=12, room=60):
    """A part of a few notes that lie upon each other."""
    notes = {(source.randrange(room), source.randrange(1, 20), source.randrange(60, 63), source.randrange(1, 4))
             for _ in range(source.randrange(most + 1))}
    return tuple(sorted(notes))


def lasting(part, tick):
    """The pairs of pitch and force that last at the tick."""
    return {(pitch, force) for start, length, pitch, force in part if tick in range(start, start + length)}


class Kinds(unittest.TestCase):
    def test_parts(self):
        for part in PARTS + (SMALL[:1], FULL[:99]):
            self.assertIs(told(self, is_part, part), True)

    def test_no_parts(self):
        for value in ODD + NO_PARTS + (nested(tuple, 30), 0, 60):
            self.assertIs(told(self, is_part, value), False, value)
        for value in warped(SMALL):
            self.assertIs(is_part(value), False, value)

    def test_bounds_one_by_one(self):
        for at, low, high in ((0, 0, 2000), (1, 1, 500), (2, 0, 127), (3, 1, 127)):
            note = (5, 5, 5, 5)
            for number in (low - 1, low, high, high + 1):
                value = (note[:at] + (number,) + note[at + 1:],)
                self.assertIs(is_part(value), low <= number <= high, value)

    def test_every_function_refuses_what_is_no_part(self):
        for value in NO_PARTS + ODD:
            for call in (
                lambda part: sounding(part, -1), lambda part: moved(part, 2001), lambda part: raised(part, 128),
                lambda part: joined(part, None), lambda part: joined((), part), lambda part: cut(part, -1, -1),
                lambda part: repeated(part, 0, 0), lambda part: snapped(part, 0),
            ):
                refused(self, InvalidPart, value, call, value)


class Sounding(unittest.TestCase):
    def test_first_and_last_tick_of_notes(self):
        note = (10, 5, 60, 100)
        for tick, notes in ((9, ()), (10, (note,)), (14, (note,)), (15, ()), (0, ()), (10000, ())):
            self.assertEqual(told(self, sounding, (note,), tick), notes)
        self.assertEqual(told(self, sounding, EDGE, 2499), EDGE[1:])
        self.assertEqual(told(self, sounding, EDGE, 2500), ())
        self.assertEqual(told(self, sounding, (), 0), ())

    def test_all_ticks(self):
        for part in (SMALL, FULL, some_part(random.Random(1))):
            for tick in range(600):
                notes = tuple(note for note in part if tick in range(note[0], note[0] + note[1]))
                self.assertEqual(sounding(part, tick), notes)

    def test_ticks_that_are_refused(self):
        refuses_numbers(self, InvalidNumber, sounding, (SMALL, 0), 1, 0, 10000)


class MovedAndRaised(unittest.TestCase):
    def test_moved(self):
        self.assertEqual(told(self, moved, SMALL, 0), SMALL)
        self.assertEqual(told(self, moved, SMALL[:2], 7), ((7, 10, 60, 100), (11, 3, 62, 90)))
        self.assertEqual(told(self, moved, SMALL[1:3], -4), ((0, 3, 62, 90), (0, 20, 60, 100)))
        self.assertEqual(told(self, moved, ((2000, 1, 0, 1),), -2000), ((0, 1, 0, 1),))
        self.assertEqual(told(self, moved, ((0, 1, 0, 1),), 2000), ((2000, 1, 0, 1),))
        for many in (-2000, 2000):
            self.assertEqual(told(self, moved, (), many), ())

    def test_moved_beyond_the_room(self):
        for part, many in ((SMALL, -1), (SMALL, 1971), (EDGE, 1), (EDGE, -1), (((1, 1, 0, 1),), 2000)):
            undefined(self, "room", moved, part, many)
        self.assertEqual(moved(SMALL, 1970)[-1], (2000, 500, 0, 1))
        self.assertEqual(moved(SMALL[1:], -4)[0], (0, 3, 62, 90))
        undefined(self, "room", moved, SMALL[1:], -5)

    def test_moved_by_what_is_refused(self):
        for part in ((), EDGE):
            refuses_numbers(self, InvalidNumber, moved, (part, 0), 1, -2000, 2000)

    def test_a_moved_part_sounds_as_before_later(self):
        tone = (("saw",), even_tuning(), (3, 5, 100, 10), 3)
        tempo = Tempo(((0, 4, "flat"),))
        part = SMALL[:4]
        for sample in range(0, 140):
            self.assertEqual(played(tone, moved(part, 9), tempo, sample + 36), played(tone, part, tempo, sample))

    def test_raised(self):
        self.assertEqual(told(self, raised, SMALL[:2], 5), ((0, 10, 65, 100), (4, 3, 67, 90)))
        self.assertEqual(told(self, raised, SMALL[:2], -60), ((0, 10, 0, 100), (4, 3, 2, 90)))
        self.assertEqual(told(self, raised, SMALL[:2], 65), ((0, 10, 125, 100), (4, 3, 127, 90)))
        self.assertEqual(told(self, raised, EDGE, 0), EDGE)
        for many in (-127, 127):
            self.assertEqual(told(self, raised, (), many), ())

    def test_raised_beyond_the_pitches(self):
        for part, many in ((SMALL[:2], 66), (SMALL[:2], -61), (EDGE, 1), (EDGE, -1)):
            undefined(self, "pitch", raised, part, many)

    def test_raised_by_what_is_refused(self):
        for part in ((), EDGE):
            refuses_numbers(self, InvalidNumber, raised, (part, 0), 1, -127, 127)


class Joined(unittest.TestCase):
    def test_equal_notes_once(self):
        self.assertEqual(told(self, joined, SMALL, SMALL), SMALL)
        self.assertEqual(told(self, joined, SMALL[1:4], SMALL[:3]), SMALL[:4])
        self.assertEqual(told(self, joined, (), ()), ())
        self.assertEqual(told(self, joined, EDGE, SMALL), (SMALL + EDGE)[5:6] + SMALL + EDGE[1:])

    def test_as_many_notes_as_are_let(self):
        self.assertEqual(told(self, joined, FULL, FULL[::2]), FULL)
        self.assertEqual(told(self, joined, FULL[:60], FULL[20:]), FULL)
        self.assertEqual(told(self, joined, FULL[::2], FULL[1::2]), FULL)
        undefined(self, "many", joined, FULL, ((2000, 1, 0, 1),))
        undefined(self, "many", joined, ((2000, 1, 0, 1),), FULL)

    def test_one_is_refused_ahead_of_other(self):
        one, other = [1], [2]
        refused(self, InvalidPart, one, joined, one, other)
        refused(self, InvalidPart, other, joined, SMALL, other)


class Cut(unittest.TestCase):
    def test_through_notes(self):
        self.assertEqual(told(self, cut, SMALL, 5, 13), (
            (5, 2, 62, 90), (5, 5, 60, 100), (5, 8, 60, 100), (12, 1, 127, 127),
        ))
        self.assertEqual(told(self, cut, SMALL, 0, 10000), SMALL)
        self.assertEqual(told(self, cut, SMALL, 4, 5), ((4, 1, 60, 100), (4, 1, 62, 90)))

    def test_first_equal_to_last(self):
        for tick in (0, 4, 5, 2000, 2001, 10000):
            self.assertEqual(told(self, cut, SMALL + EDGE[1:], tick, tick), ())

    def test_notes_that_become_equal(self):
        self.assertEqual(told(self, cut, ((0, 9, 60, 1), (2, 9, 60, 1), (3, 1, 60, 2)), 4, 8), ((4, 4, 60, 1),))

    def test_ticks_beyond_the_room(self):
        self.assertEqual(told(self, cut, EDGE, 2000, 10000), EDGE[1:])
        undefined(self, "room", cut, EDGE, 2001, 10000)
        undefined(self, "room", cut, EDGE, 2499, 2500)
        self.assertEqual(told(self, cut, EDGE, 2500, 10000), ())
        self.assertEqual(told(self, cut, EDGE, 1999, 2001), ((2000, 1, 127, 127),))
        self.assertEqual(told(self, cut, EDGE, 2001, 2001), ())

    def test_ticks_that_are_refused(self):
        refuses_numbers(self, InvalidNumber, cut, (SMALL, 0, 10000), 1, 0, 10000)
        refuses_numbers(self, InvalidNumber, cut, (SMALL, 0, 0), 2, 0, 10000)
        refuses_numbers(self, InvalidNumber, cut, (SMALL, 70, 80), 2, 70, 10000)
        first, last = 10001, 10002
        refused(self, InvalidNumber, first, cut, SMALL, first, last)
        refused(self, InvalidNumber, first, cut, SMALL, first, -1)
        refused(self, InvalidNumber, 4, cut, SMALL, 5, 4)

    def test_cut_and_joined_again(self):
        source = random.Random(2)
        for _ in range(60):
            part = some_part(source)
            one, two = sorted((source.randrange(90), source.randrange(90)))
            pieces = (cut(part, 0, one), cut(part, one, two), cut(part, two, 10000))
            for low, high, piece in zip((0, one, two), (one, two, 90), pieces):
                self.assertIs(is_part(piece), True)
                for tick in range(90):
                    self.assertEqual(lasting(piece, tick), lasting(part, tick) if low <= tick < high else set())
            whole = joined(joined(pieces[0], pieces[1]), pieces[2])
            for tick in range(90):
                self.assertEqual(lasting(whole, tick), lasting(part, tick))
                for pair in lasting(part, tick):
                    self.assertTrue([note for note in sounding(whole, tick) if note[2:] == pair])


class Repeated(unittest.TestCase):
    def test_repeated(self):
        self.assertEqual(told(self, repeated, SMALL[:1], 5, 3), (
            (0, 10, 60, 100), (5, 10, 60, 100), (10, 10, 60, 100),
        ))
        self.assertEqual(told(self, repeated, SMALL, 500, 1), SMALL)
        self.assertEqual(told(self, repeated, (), 500, 20), ())

    def test_equal_notes_of_two_repetitions_once(self):
        part = ((0, 1, 60, 1), (10, 1, 60, 1))
        self.assertEqual(told(self, repeated, part, 10, 3), tuple((k * 10, 1, 60, 1) for k in range(4)))
        whole = tuple((k, 1, 60, 1) for k in range(81))
        self.assertEqual(len(told(self, repeated, whole, 1, 20)), 100)
        undefined(self, "many", repeated, tuple((k, 1, 60, 1) for k in range(82)), 1, 20)

    def test_many_and_room(self):
        undefined(self, "many", repeated, FULL[:51], 500, 2)
        self.assertEqual(len(told(self, repeated, FULL[:50], 500, 2)), 100)
        undefined(self, "room", repeated, FULL, 500, 6)
        undefined(self, "room", repeated, ((501, 1, 0, 1),), 500, 4)
        self.assertEqual(told(self, repeated, ((500, 1, 0, 1),), 500, 4)[-1], (2000, 1, 0, 1))
        undefined(self, "room", repeated, FULL, 500, 20)
        undefined(self, "many", repeated, FULL, 500, 2)

    def test_numbers_that_are_refused(self):
        for part in ((), EDGE, SMALL):
            refuses_numbers(self, InvalidNumber, repeated, (part, 1, 1), 1, 1, 500)
            refuses_numbers(self, InvalidNumber, repeated, (part, 1, 1), 2, 1, 20)
        length, many = 501, 21
        refused(self, InvalidNumber, length, repeated, SMALL, length, many)

    def test_what_sounds(self):
        source = random.Random(3)
        for _ in range(30):
            part, length, many = some_part(source, 4), source.randrange(1, 30), source.randrange(1, 9)
            whole = repeated(part, length, many)
            for tick in range(0, 300, 7):
                pairs = set()
                for turn in range(many):
                    pairs |= lasting(part, tick - turn * length)
                self.assertEqual(lasting(whole, tick), pairs)
            self.assertEqual(whole, tuple(sorted(set(whole))))


class Snapped(unittest.TestCase):
    def test_grid_of_1(self):
        for part in PARTS:
            self.assertEqual(told(self, snapped, part, 1), part)

    def test_ties_go_to_the_lesser(self):
        part = tuple((tick, 1, 60, 1) for tick in range(13))
        self.assertEqual(told(self, snapped, part, 4), tuple((tick, 1, 60, 1) for tick in (0, 4, 8, 12)))
        for tick, grid, to in (
            (2, 4, 0), (3, 4, 4), (6, 4, 4), (7, 4, 8), (1, 3, 0), (2, 3, 3), (480, 960, 0), (481, 960, 960),
            (1440, 960, 960), (1441, 960, 1920), (2000, 960, 1920), (2000, 7, 1995), (1999, 7, 1995), (2000, 1, 2000),
            (2000, 3, 1998), (2000, 667, 1334), (1999, 1, 1999), (1998, 400, 2000), (1800, 400, 1600), (0, 960, 0),
        ):
            self.assertEqual(told(self, snapped, ((tick, 9, 60, 1),), grid), ((to, 9, 60, 1),))

    def test_every_tick_by_search(self):
        for grid in (2, 3, 5, 7, 64, 333, 959, 960):
            multiples = range(0, 2001, grid)
            for tick in range(0, 2001, 3):
                near = min(multiples, key=lambda one: (abs(one - tick), one))
                self.assertEqual(snapped(((tick, 9, 60, 1),), grid), ((near, 9, 60, 1),))

    def test_notes_that_become_equal_and_change_order(self):
        part = ((3, 9, 61, 1), (4, 9, 60, 1), (5, 9, 61, 1), (5, 10, 61, 1))
        self.assertEqual(told(self, snapped, part, 4), ((4, 9, 60, 1), (4, 9, 61, 1), (4, 10, 61, 1)))

    def test_grids_that_are_refused(self):
        for part in ((), EDGE):
            refuses_numbers(self, InvalidNumber, snapped, (part, 1), 1, 1, 960)


if __name__ == "__main__":
    unittest.main()
