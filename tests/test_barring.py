"""[6] Bars."""

import unittest

from tests.helpers import ODD, TEMPO, refused, refuses_numbers, told, warped
from trackloom.barring import Metre, place_of, tick_at
from trackloom.errors import InvalidBars, InvalidNumber, InvalidPlace

EVEN = ((0, 4),)
MIXED = ((0, 4), (2, 3), (3, 15), (5, 1), (1000, 7))
MANY = tuple((k * 2, 1 + k * 7 % 15) for k in range(40))
ALL = (EVEN, MIXED, MANY, ((0, 1),), ((0, 15),), ((0, 15), (1, 1)))


def all_places(bars, ticks):
    """The places of all ticks ahead of this one, counted one by one."""
    beats_at = dict(bars)
    places, bar, beats = [], 0, bars[0][1]
    while len(places) < ticks:
        beats = beats_at.get(bar, beats)
        places += [(bar, beat, rest) for beat in range(beats) for rest in range(24)]
        bar += 1
    return places[:ticks]


class Bars(unittest.TestCase):
    def test_place_of_and_tick_at_all_ticks(self):
        for bars in ALL:
            metre = Metre(bars)
            for tick, place in enumerate(all_places(bars, 10001)):
                self.assertEqual(place_of(metre, tick), place)
                self.assertEqual(tick_at(metre, place), tick)

    def test_beginnings_of_bars_and_beats_and_just_ahead(self):
        metre = Metre(MIXED)
        for tick, place in (
            (0, (0, 0, 0)), (23, (0, 0, 23)), (24, (0, 1, 0)), (95, (0, 3, 23)), (96, (1, 0, 0)), (191, (1, 3, 23)),
            (192, (2, 0, 0)), (263, (2, 2, 23)), (264, (3, 0, 0)), (623, (3, 14, 23)), (624, (4, 0, 0)),
            (983, (4, 14, 23)), (984, (5, 0, 0)), (1007, (5, 0, 23)), (1008, (6, 0, 0)), (10000, (380, 0, 16)),
        ):
            self.assertEqual(told(self, place_of, metre, tick), place)
            self.assertEqual(told(self, tick_at, metre, place), tick)

    def test_places_as_far_as_bar_2000(self):
        self.assertEqual(told(self, tick_at, Metre(EVEN), (2000, 3, 23)), 2000 * 96 + 3 * 24 + 23)
        self.assertEqual(told(self, tick_at, Metre(((0, 15),)), (2000, 14, 23)), 2001 * 15 * 24 - 1)
        self.assertEqual(tick_at(Metre(MIXED), (999, 0, 0)), 984 + 994 * 24)
        self.assertEqual(tick_at(Metre(MIXED), (1000, 6, 0)), 984 + 995 * 24 + 6 * 24)
        self.assertEqual(tick_at(Metre(MIXED), (2000, 6, 23)), 984 + 995 * 24 + 1000 * 7 * 24 + 6 * 24 + 23)

    def test_places_that_the_metre_does_not_have(self):
        metre = Metre(MIXED)
        for wrong in (
            (2001, 0, 0), (-1, 0, 0), (0, 4, 0), (1, 4, 0), (2, 3, 0), (3, 15, 0), (4, 15, 0), (5, 1, 0), (999, 1, 0),
            (1000, 7, 0), (2000, 7, 0), (0, -1, 0), (0, 0, -1), (0, 0, 24), (0, 3, 24), (5, 0, 24), (0, 0), (0, 0, 0, 0),
            (), 0, 5, [0, 0, 0], (True, 0, 0), (0, True, 0), (0, 0, True), (0, 0, None), ((0, 0, 0),), ("0", 0, 0),
            (0, "0", 0), (0, 0, "0"), (10 ** 11, 0, 0), (0, 10 ** 11, 0), (0, 0, 10 ** 11),
        ):
            refused(self, InvalidPlace, wrong, tick_at, metre, wrong)
        for odd in ODD + tuple(warped((5, 0, 3))):
            refused(self, InvalidPlace, odd, tick_at, metre, odd)

    def test_ticks_that_are_refused(self):
        for bars in ALL:
            refuses_numbers(self, InvalidNumber, place_of, (Metre(bars), 0), 1, 0, 10000)


class Metres(unittest.TestCase):
    def test_keep_their_bars(self):
        for bars in ALL:
            self.assertEqual(Metre(bars).bars, bars)
            self.assertEqual(Metre(bars=bars).bars, bars)
            self.assertIs(type(Metre(bars).bars), tuple)

    def test_are_equal_to_those_with_equal_bars_alone(self):
        for one in ALL:
            for other in ALL:
                self.assertIs(Metre(one) == Metre(tuple(other)), one == other)
                self.assertIs(Metre(one) != Metre(tuple(other)), one != other)
            for odd in ODD + (one, one[0], 0, 1, TEMPO):
                if odd != Metre(one):
                    self.assertIs(Metre(one) == odd, False)
                    self.assertIs(odd == Metre(one), False)

    def test_are_not_iterable(self):
        with self.assertRaises(TypeError):
            iter(Metre(EVEN))
        with self.assertRaises(TypeError):
            list(Metre(EVEN))

    def test_as_many_pairs_as_are_let(self):
        self.assertEqual(len(MANY), 40)
        more = MANY + ((1000, 4),)
        refused(self, InvalidBars, more, Metre, more)

    def test_bounds_of_pairs(self):
        for wrong in (
            (), ((0, 0),), ((0, 16),), ((0, -1),), ((1, 4),), ((-1, 4),), ((-1, 4), (0, 4)), ((0, 4), (1001, 4)),
            ((0, 4), (0, 4)), ((0, 4), (0, 5)), ((0, 4), (3, 4), (2, 4)), ((0, 4), (3, 4), (3, 5)), ((0,),),
            ((0, 4, 4),), ((),), (0, 4), ((3, 4), (0, 4)), ((0, "4"),), (("0", 4),),
        ):
            refused(self, InvalidBars, wrong, Metre, wrong)

    def test_all_that_is_no_bars(self):
        for odd in ODD + (0, 4, Metre(EVEN), (Metre(EVEN),), list(EVEN), EVEN * 2):
            refused(self, InvalidBars, odd, Metre, odd)
        for wrong in warped(MIXED):
            refused(self, InvalidBars, wrong, Metre, wrong)


if __name__ == "__main__":
    unittest.main()
