"""[9] Curves."""

import random
import unittest
from fractions import Fraction
from math import floor

from tests.helpers import ODD, refused, refuses_numbers, told, undefined, warped
from trackloom.curves import bent, straight, value_at
from trackloom.errors import InvalidCurve, InvalidNumber

ONE = ((7, -5),)
RISE = ((3, 10), (13, 13))
FALL = ((3, 13), (13, 10))
WIDE = ((0, -1024), (1, 1024), (2000, -1024))
MANY = tuple((k * 51, k * 331 % 2049 - 1024) for k in range(40))
ALL = (ONE, RISE, FALL, WIDE, MANY, ((2000, 1024),), ((0, 0), (3, 1), (7, -1)))
NO_CURVES = (
    (), [], ((0, 1025),), ((0, -1025),), ((-1, 0),), ((2001, 0),), ((0, 0), (0, 0)), ((0, 0), (0, 1)),
    ((5, 0), (4, 0)), ((0, 0, 0),), ((0,),), ((),), (0, 0), 0, list(RISE), ((0, 0), (4, 0), (4, 1)),
    MANY + ((2000, 0),), RISE * 2,
)


def expected(curve, tick):
    """The value as the document tells it, over fractions."""
    if tick <= curve[0][0]:
        return curve[0][1]
    if tick >= curve[-1][0]:
        return curve[-1][1]
    for at in range(len(curve) - 1):
        (start, one), (end, other) = curve[at], curve[at + 1]
        if start <= tick <= end:
            return one + floor(Fraction((other - one) * (tick - start), end - start))
    raise AssertionError("no stretch")


def expected_straight(curve):
    """What is left when points are tried at all ticks, from the first to the last."""
    left = curve
    for point in curve:
        without = tuple(one for one in left if one != point)
        if without and all(expected(without, tick) == expected(left, tick) for tick in range(curve[-1][0] + 2)):
            left = without
    return left


def some_curve(source, room, height):
    ticks = sorted(source.sample(range(room), source.randrange(1, min(room, 9))))
    return tuple((tick, source.randrange(-height, height + 1)) for tick in ticks)


class Values(unittest.TestCase):
    def test_values_rounded_down(self):
        self.assertEqual([value_at(RISE, tick) for tick in range(2, 15)], [10, 10, 10, 10, 10, 11, 11, 11, 12, 12, 12, 13, 13])
        self.assertEqual([value_at(FALL, tick) for tick in range(2, 15)], [13, 13, 12, 12, 12, 11, 11, 11, 10, 10, 10, 10, 10])
        self.assertEqual(value_at(((0, 0), (3, -1)), 1), -1)
        self.assertEqual(value_at(((0, -5), (3, -4)), 2), -5)

    def test_all_curves_at_all_ticks(self):
        for curve in ALL:
            for tick in list(range(0, 2003)) + [9999, 10000]:
                self.assertEqual(value_at(curve, tick), expected(curve, tick))

    def test_at_points_and_beyond(self):
        for curve in ALL:
            for tick, value in curve:
                self.assertEqual(told(self, value_at, curve, tick), value)
            for tick in range(curve[0][0]):
                self.assertEqual(value_at(curve, tick), curve[0][1])
            for tick in (curve[-1][0] + 1, 2001, 10000):
                self.assertEqual(told(self, value_at, curve, tick), curve[-1][1])

    def test_values_lie_between_those_of_the_points_around(self):
        for curve in ALL:
            for (start, one), (end, other) in zip(curve, curve[1:]):
                for tick in range(start, end + 1):
                    self.assertTrue(min(one, other) <= value_at(curve, tick) <= max(one, other))

    def test_ticks_that_are_refused(self):
        for curve in (ONE, MANY):
            refuses_numbers(self, InvalidNumber, value_at, (curve, 0), 1, 0, 10000)


class Bent(unittest.TestCase):
    def test_a_new_point(self):
        self.assertEqual(told(self, bent, RISE, 5, 1024), ((3, 10), (5, 1024), (13, 13)))
        self.assertEqual(told(self, bent, RISE, 0, -1024), ((0, -1024), (3, 10), (13, 13)))
        self.assertEqual(told(self, bent, RISE, 2000, 0), ((3, 10), (13, 13), (2000, 0)))

    def test_in_place_of_a_point(self):
        self.assertEqual(told(self, bent, RISE, 3, 11), ((3, 11), (13, 13)))
        self.assertEqual(told(self, bent, RISE, 13, -7), ((3, 10), (13, -7)))
        self.assertEqual(told(self, bent, ONE, 7, 1), ((7, 1),))
        self.assertEqual(told(self, bent, RISE, 3, 10), RISE)

    def test_as_many_points_as_are_let(self):
        self.assertEqual(told(self, bent, MANY, 51, 3), MANY[:1] + ((51, 3),) + MANY[2:])
        self.assertEqual(told(self, bent, MANY[:39], 2000, 3), MANY[:39] + ((2000, 3),))
        undefined(self, "many", bent, MANY, 50, 3)
        undefined(self, "many", bent, MANY, 2000, 3)

    def test_numbers_that_are_refused(self):
        for curve in (ONE, MANY):
            refuses_numbers(self, InvalidNumber, bent, (curve, 0, 0), 1, 0, 2000)
            refuses_numbers(self, InvalidNumber, bent, (curve, 0, 0), 2, -1024, 1024)
        tick, value = 2001, 1025
        refused(self, InvalidNumber, tick, bent, ONE, tick, value)


class Straight(unittest.TestCase):
    def test_points_on_a_line(self):
        self.assertEqual(told(self, straight, ((0, 0), (5, 10), (7, 14), (20, 40))), ((0, 0), (20, 40)))
        self.assertEqual(told(self, straight, ((0, 0), (5, 10), (7, 16), (20, 40))), ((0, 0), (5, 10), (7, 16), (20, 40)))

    def test_points_of_equal_values(self):
        self.assertEqual(told(self, straight, ((3, 8), (5, 8), (9, 8))), ((9, 8),))
        self.assertEqual(told(self, straight, ((3, 8), (5, 8), (9, 7))), ((5, 8), (9, 7)))
        self.assertEqual(told(self, straight, ((3, 9), (5, 7), (9, 7), (11, 7))), ((3, 9), (5, 7)))
        self.assertEqual(told(self, straight, ((0, 8), (2000, 8))), ((2000, 8),))

    def test_one_point(self):
        self.assertEqual(told(self, straight, ONE), ONE)
        self.assertEqual(told(self, straight, ((0, 0),)), ((0, 0),))

    def test_points_that_matter_only_by_rounding(self):
        self.assertEqual(told(self, straight, ((0, 1), (1, 0), (3, 0))), ((0, 1), (3, 0)))
        self.assertEqual(told(self, straight, ((0, 0), (1, 0), (3, 1))), ((1, 0), (3, 1)))
        self.assertEqual(told(self, straight, ((0, 3), (2, 4), (5, 6))), ((0, 3), (5, 6)))
        self.assertEqual(told(self, straight, ((0, 3), (2, 5), (5, 6))), ((0, 3), (2, 5), (5, 6)))

    def test_changes_no_value(self):
        source = random.Random(9)
        curves = [some_curve(source, room, height) for room in (4, 12, 40) for height in (1, 2, 9) for _ in range(40)]
        for curve in curves + [ONE, RISE, FALL, WIDE, MANY]:
            left = told(self, straight, curve)
            for tick in list(range(curve[-1][0] + 3)) + [10000]:
                self.assertEqual(value_at(left, tick), value_at(curve, tick))

    def test_takes_away_from_the_first_to_the_last(self):
        source = random.Random(10)
        for _ in range(600):
            curve = some_curve(source, source.choice((4, 8, 14)), source.choice((1, 2, 5)))
            self.assertEqual(straight(curve), expected_straight(curve), curve)

    def test_many_points_on_a_line(self):
        line = tuple((k * 51, k * 2) for k in range(40))
        self.assertEqual(straight(line), ((0, 0), (1989, 78)))
        short = tuple((k * 2, k * 2 // 3) for k in range(40))
        self.assertEqual(straight(short), expected_straight(short))


class Kinds(unittest.TestCase):
    def test_every_function_refuses_what_is_no_curve(self):
        for value in NO_CURVES + ODD + ((),):
            refused(self, InvalidCurve, value, value_at, value, -1)
            refused(self, InvalidCurve, value, bent, value, -1, 1025)
            refused(self, InvalidCurve, value, straight, value)
        for value in warped(RISE):
            refused(self, InvalidCurve, value, straight, value)

    def test_bounds_one_by_one(self):
        for fine in (((0, -1024), (2000, 1024)), ((2000, 0),)):
            self.assertEqual(value_at(fine, 10000), fine[-1][1])


if __name__ == "__main__":
    unittest.main()
