"""[5] Paces."""

import random
import unittest
from fractions import Fraction
from math import floor

from tests.helpers import METRE, ODD, nested, refused, refuses_numbers, told, warped
from trackloom.errors import InvalidNumber, InvalidPaces
from trackloom.pacing import Tempo, pace_at, sample_of, tick_of

FLAT = ((0, 100, "flat"),)
STEPS = ((0, 100, "flat"), (7, 1, "flat"), (9, 400, "flat"))
UP = ((0, 10, "ramp"), (10, 13, "ramp"), (17, 400, "flat"))
DOWN = ((0, 13, "ramp"), (10, 10, "ramp"), (12, 9, "flat"), (13, 400, "ramp"), (2000, 1, "flat"))
MANY = tuple((k * 50, 1 + k * 97 % 400, "flat" if k % 3 == 2 else "ramp") for k in range(39)) + ((2000, 7, "flat"),)
ALL = (FLAT, STEPS, UP, DOWN, MANY, ((0, 1, "flat"),), ((0, 400, "flat"),), ((0, 3, "ramp"), (2000, 3, "flat")))


def expected_pace(paces, tick):
    """The pace as the document tells it, over fractions."""
    at = max(k for k, triple in enumerate(paces) if triple[0] <= tick)
    start, pace, word = paces[at]
    if word == "flat":
        return pace
    end, other, _ = paces[at + 1]
    return pace + floor(Fraction((other - pace) * (tick - start), end - start))


def telling_ticks(paces):
    """The ticks at, just ahead of and just behind each point, and far ones."""
    near = [triple[0] + by for triple in paces for by in (-2, -1, 0, 1, 2)]
    return sorted({tick for tick in near + [0, 1, 5000, 9999, 10000] if tick >= 0})


def some_paces(random_source):
    ticks = sorted(random_source.sample(range(1, 120), random_source.randrange(0, 12)))
    words = [random_source.choice(("flat", "ramp")) for _ in ticks] + ["flat"]
    return tuple((tick, random_source.randrange(1, 401), word) for tick, word in zip([0] + ticks, words))


class Paces(unittest.TestCase):
    def test_pace_at_is_what_the_document_tells(self):
        for paces in ALL:
            for tick in telling_ticks(paces):
                self.assertEqual(told(self, pace_at, Tempo(paces), tick), expected_pace(paces, tick), (paces, tick))

    def test_ramps_downwards_are_rounded_down(self):
        tempo = Tempo(((0, 13, "ramp"), (10, 10, "flat")))
        self.assertEqual([pace_at(tempo, tick) for tick in range(12)], [13, 12, 12, 12, 11, 11, 11, 10, 10, 10, 10, 10])

    def test_ramps_upwards_are_rounded_down(self):
        tempo = Tempo(((0, 10, "ramp"), (10, 13, "flat")))
        self.assertEqual([pace_at(tempo, tick) for tick in range(12)], [10, 10, 10, 10, 11, 11, 11, 12, 12, 12, 13, 13])

    def test_sample_of_is_the_sum_of_pace_at(self):
        source = random.Random(5)
        for paces in ALL + tuple(some_paces(source) for _ in range(10)):
            tempo = Tempo(paces)
            total = 0
            for tick in range(2501):
                self.assertEqual(sample_of(tempo, tick), total)
                total += pace_at(tempo, tick)
            for tick in (5000, 10000):
                self.assertEqual(told(self, sample_of, tempo, tick), total + (tick - 2501) * paces[-1][1])

    def test_sample_of_some(self):
        self.assertEqual(sample_of(Tempo(FLAT), 10000), 1000000)
        self.assertEqual(sample_of(Tempo(STEPS), 10), 700 + 2 + 400)
        self.assertEqual(sample_of(Tempo(STEPS), 0), 0)
        self.assertEqual(sample_of(Tempo(STEPS), 7), 700)

    def test_tick_of_the_first_and_last_sample_of_ticks(self):
        for paces in ALL:
            tempo = Tempo(paces)
            for tick in telling_ticks(paces):
                first = sample_of(tempo, tick)
                lasts = pace_at(tempo, tick)
                self.assertEqual(told(self, tick_of, tempo, first), (tick, 0))
                self.assertEqual(told(self, tick_of, tempo, first + lasts - 1), (tick, lasts - 1))
                self.assertEqual(tick_of(tempo, first + lasts), (tick + 1, 0))

    def test_tick_of_every_sample_there_and_back(self):
        source = random.Random(6)
        for paces in (UP, DOWN[:2] + ((12, 9, "flat"),)) + tuple(some_paces(source) for _ in range(5)):
            tempo = Tempo(paces)
            for sample in range(0, 60000, 37 if len(paces) > 3 else 1):
                tick, rest = tick_of(tempo, sample)
                self.assertEqual(sample_of(tempo, tick) + rest, sample)
                self.assertTrue(0 <= rest < pace_at(tempo, tick))

    def test_tick_of_goes_on_behind_tick_10000(self):
        self.assertEqual(told(self, tick_of, Tempo(((0, 1, "flat"),)), 10000000), (10000000, 0))
        self.assertEqual(told(self, tick_of, Tempo(FLAT), 10000000), (100000, 0))
        self.assertEqual(told(self, tick_of, Tempo(FLAT), 9999999), (99999, 99))
        self.assertEqual(tick_of(Tempo(FLAT), 1000001), (10000, 1))
        self.assertEqual(tick_of(Tempo(((0, 400, "ramp"), (2000, 3, "flat"))), 0), (0, 0))
        for paces in ALL:
            tempo = Tempo(paces)
            tick, rest = tick_of(tempo, 10000000)
            pace = paces[-1][1]
            self.assertEqual(sample_of(tempo, 10000) + (tick - 10000) * pace + rest, 10000000)
            self.assertTrue(0 <= rest < pace)

    def test_numbers_that_are_refused(self):
        for function, most in ((pace_at, 10000), (sample_of, 10000), (tick_of, 10000000)):
            for paces in (FLAT, MANY):
                refuses_numbers(self, InvalidNumber, function, (Tempo(paces), 0), 1, 0, most)


class Tempos(unittest.TestCase):
    def test_keep_their_paces(self):
        for paces in ALL:
            self.assertEqual(Tempo(paces).paces, paces)
            self.assertEqual(Tempo(paces=paces).paces, paces)
            self.assertIs(type(Tempo(paces).paces), tuple)

    def test_are_equal_to_those_with_equal_paces_alone(self):
        for one in ALL:
            for other in ALL:
                self.assertIs(Tempo(one) == Tempo(tuple(other)), one == other)
                self.assertIs(Tempo(one) != Tempo(tuple(other)), one != other)
            for odd in ODD + (one, one[0], 0, 1):
                if odd != Tempo(one):
                    self.assertIs(Tempo(one) == odd, False)
                    self.assertIs(odd == Tempo(one), False)
        self.assertNotEqual(Tempo(((0, 4, "flat"),)), METRE)

    def test_are_not_iterable(self):
        with self.assertRaises(TypeError):
            iter(Tempo(FLAT))
        with self.assertRaises(TypeError):
            list(Tempo(FLAT))

    def test_as_many_triples_as_are_let(self):
        self.assertEqual(len(MANY), 40)
        more = MANY[:39] + ((1999, 7, "flat"),) + MANY[39:]
        refused(self, InvalidPaces, more, Tempo, more)

    def test_bounds_of_triples(self):
        for fine in (((0, 1, "flat"),), ((0, 400, "flat"),), ((0, 1, "ramp"), (2000, 400, "flat"))):
            self.assertEqual(Tempo(fine).paces, fine)
        for wrong in (
            (), ((0, 0, "flat"),), ((0, 401, "flat"),), ((0, -1, "flat"),), ((1, 1, "flat"),), ((-1, 1, "flat"),),
            ((-1, 1, "flat"), (0, 1, "flat")), ((0, 1, "flat"), (2001, 1, "flat")), ((0, 1, "ramp"),),
            ((0, 1, "flat"), (5, 1, "ramp")), ((0, 1, "flat"), (0, 1, "flat")), ((0, 1, "flat"), (0, 2, "flat")),
            ((0, 1, "flat"), (5, 1, "flat"), (4, 1, "flat")), ((0, 1, "flat"), (5, 1, "flat"), (5, 2, "flat")),
            ((0, 1, "Flat"),), ((0, 1, ""),), ((0, 1, "up"), (3, 1, "flat")), ((0, 1, "flatramp"),), ((0, 1),),
            ((0, 1, "flat", 0),), ((),), (0, 1, "flat"), ((0, 1, ("flat",)),), ((5, 1, "flat"), (0, 1, "flat")),
        ):
            refused(self, InvalidPaces, wrong, Tempo, wrong)

    def test_all_that_is_no_paces(self):
        for odd in ODD + (0, 5, "flat", Tempo(FLAT), (Tempo(FLAT),), nested(tuple, 59), list(FLAT), FLAT * 2):
            refused(self, InvalidPaces, odd, Tempo, odd)
        for paces in (FLAT, UP):
            for wrong in warped(paces):
                refused(self, InvalidPaces, wrong, Tempo, wrong)


if __name__ == "__main__":
    unittest.main()
