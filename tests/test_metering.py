"""[30] Meters."""

import random
import unittest

from tests.helpers import METRE, ODD, PROJECT, TEMPO, nested, refused, refuses_numbers, told, undefined, warped
from tests.meaning import BOUND
from trackloom.errors import InvalidNumber, InvalidSamples, InvalidValue, Undefined
from trackloom.metering import loudest, meter, together

NO_SAMPLES = tuple(value for value in ODD if value != (0,) * 9) + (
    0, [], [1], (1, True), (1, None), (1, "1"), (1, (1,)), (BOUND + 1,), (-BOUND - 1,), (0,) * 2001, "12",
) + tuple(warped((1, 2)))


def some_samples(source, many):
    return tuple(source.choice((0, -BOUND, BOUND, source.randrange(-BOUND, BOUND + 1), source.randrange(-9, 9)))
                 for _ in range(many))


class Meters(unittest.TestCase):
    def test_by_hand(self):
        for samples, expected in (
            ((), (0, 0, 0, 0)), ((0,), (1, 0, 0, 0)), ((3, -4), (2, 4, 25, 0)), ((-5, 2, 2), (3, 5, 33, 0)),
            ((BOUND,), (1, BOUND, BOUND * BOUND, 1)), ((-BOUND, 1 - BOUND), (2, BOUND, BOUND ** 2 + (BOUND - 1) ** 2, 1)),
            ((BOUND, -BOUND, 0, BOUND), (4, BOUND, 3 * BOUND * BOUND, 3)),
            ((BOUND - 1, 1 - BOUND), (2, BOUND - 1, 2 * (BOUND - 1) ** 2, 0)),
        ):
            self.assertEqual(told(self, meter, samples), expected)

    def test_2000_samples(self):
        self.assertEqual(told(self, meter, (-BOUND,) * 2000), (2000, BOUND, 2000 * BOUND * BOUND, 2000))
        self.assertEqual(told(self, meter, (0,) * 2000), (2000, 0, 0, 0))

    def test_refused(self):
        for value in NO_SAMPLES:
            refused(self, InvalidSamples, value, meter, value)


class Together(unittest.TestCase):
    def test_by_hand(self):
        self.assertEqual(told(self, together, (1, 2, 3, 4), (10, 20, 30, 40)), (11, 20, 33, 44))
        self.assertEqual(told(self, together, (1, 20, 3, 4), (10, 2, 30, 40)), (11, 20, 33, 44))
        self.assertEqual(told(self, together, (0, 0, 0, 0), (0, 0, 0, 0)), (0, 0, 0, 0))
        great = 10 ** 18
        self.assertEqual(told(self, together, (great,) * 4, (1, 2, 3, 4)), (great + 1, great, great + 3, great + 4))

    def test_of_two_pieces_is_that_of_the_whole(self):
        source = random.Random(81)
        for many in (0, 1, 2, 50, 2000):
            for _ in range(10):
                samples = some_samples(source, many)
                at = source.choice((0, many, source.randrange(many + 1)))
                one, other = meter(samples[:at]), meter(samples[at:])
                self.assertEqual(told(self, together, one, other), meter(samples))
                self.assertEqual(told(self, together, other, one), meter(samples))

    def test_refused(self):
        fine = (1, 2, 3, 4)
        for value in ODD + (
            0, (), (1, 2, 3), (1, 2, 3, 4, 5), (-1, 2, 3, 4), (1, -1, 3, 4), (1, 2, -1, 4), (1, 2, 3, -1), (True, 2, 3, 4),
            (1, False, 3, 4), (1, 2, None, 4), (1, 2, 3, "4"), (1, 2, 3, (4,)), list(fine), "1234", (TEMPO, METRE, PROJECT, 1),
            nested(tuple, 4), (nested(tuple, 60),) * 4, (10 ** 11, 10 ** 11, 10 ** 11, -10 ** 11),
        ):
            refused(self, InvalidValue, value, together, value, [])
            refused(self, InvalidValue, value, together, fine, value)


class Loudest(unittest.TestCase):
    def test_by_hand(self):
        samples = (1, -5, 2, 2, 4, -3, 0)
        for many, most in ((1, 25), (2, 29), (3, 33), (4, 49), (5, 58), (6, 59), (7, 59)):
            self.assertEqual(told(self, loudest, samples, many), most)

    def test_first_middle_and_last(self):
        for samples in ((9, 9, 0, 0, 0), (0, 9, 9, 0, 0), (0, 0, 0, 9, 9), (0, 0, 0, -9, -9)):
            self.assertEqual(told(self, loudest, samples, 2), 162)

    def test_at_random(self):
        source = random.Random(82)
        for _ in range(60):
            many = source.randrange(1, 60)
            samples = some_samples(source, many)
            window = source.choice((1, many, source.randrange(1, many + 1)))
            expected = max(sum(x * x for x in samples[at:at + window]) for at in range(many - window + 1))
            self.assertEqual(told(self, loudest, samples, window), expected)

    def test_2000_samples(self):
        self.assertEqual(told(self, loudest, (-BOUND,) * 2000, 2000), 2000 * BOUND * BOUND)
        self.assertEqual(told(self, loudest, (3,) * 1999 + (-BOUND,), 1), BOUND * BOUND)
        self.assertEqual(told(self, loudest, (0,) * 2000, 1000), 0)

    def test_fewer_samples(self):
        for samples, many in (((), 1), ((), 2000), ((1,), 2), ((1,) * 1999, 2000), ((1, 2, 3), 4)):
            undefined(self, "many", loudest, samples, many)

    def test_refused(self):
        for value in NO_SAMPLES:
            refused(self, InvalidSamples, value, loudest, value, 0)
        refuses_numbers(self, InvalidNumber, loudest, ((1,) * 2000, 1), 1, 1, 2000)
        refuses_numbers(self, InvalidNumber, loudest, ((), 1), 1, 1, 2000)
        with self.assertRaises(Undefined):
            loudest(samples=(), many=1)


if __name__ == "__main__":
    unittest.main()
