"""[3] The errors."""

import unittest

from tests.helpers import ODD
from trackloom import errors
from trackloom.errors import StudioError

ATTRIBUTES = {
    "InvalidNumber": "value", "InvalidName": "value", "InvalidPaces": "value", "InvalidBars": "value",
    "InvalidPlace": "value", "InvalidPart": "value", "InvalidCurve": "value", "InvalidTuning": "value",
    "InvalidTone": "value", "InvalidPool": "value", "InvalidClip": "value", "InvalidEffect": "value",
    "InvalidSamples": "value", "InvalidNodes": "value", "InvalidOrder": "value", "InvalidBlocks": "value",
    "InvalidKept": "value", "InvalidMark": "value", "InvalidBytes": "value", "InvalidText": "value",
    "InvalidValue": "value", "InvalidDeed": "value", "InvalidStamp": "value", "Round": "names",
    "Undefined": "what",
}
CLASSES = {name: getattr(errors, name) for name in ATTRIBUTES}
MADE_WITH = ODD + (0, -1, 10 ** 12 - 1, "room", "{}", "50%", ("a", "b"), (1, (2, [3])), ())


class Errors(unittest.TestCase):
    def test_keep_what_they_are_made_with(self):
        for name, attribute in ATTRIBUTES.items():
            for value in MADE_WITH:
                self.assertIs(getattr(CLASSES[name](value), attribute), value)

    def test_keep_what_they_are_made_with_by_name(self):
        for name, attribute in ATTRIBUTES.items():
            self.assertEqual(getattr(CLASSES[name](**{attribute: (1,)}), attribute), (1,))

    def test_a_kept_list_is_the_list_itself(self):
        for name, attribute in ATTRIBUTES.items():
            value = [1]
            error = CLASSES[name](value)
            value.append(2)
            self.assertEqual(getattr(error, attribute), [1, 2])

    def test_stand_under_studio_error_alone(self):
        self.assertTrue(issubclass(StudioError, ValueError))
        for name, one in CLASSES.items():
            error = one(0)
            self.assertIsInstance(error, StudioError)
            self.assertIsInstance(error, ValueError)
            for other_name, other in CLASSES.items():
                self.assertEqual(isinstance(error, other), other_name == name, (name, other_name))

    def test_are_caught_as_studio_errors(self):
        for one in CLASSES.values():
            try:
                raise one("x")
            except StudioError as error:
                self.assertIs(type(error), one)

    def test_two_of_one_class_keep_their_own(self):
        for name, attribute in ATTRIBUTES.items():
            first, second = CLASSES[name](1), CLASSES[name](2)
            self.assertEqual((getattr(first, attribute), getattr(second, attribute)), (1, 2))


if __name__ == "__main__":
    unittest.main()
