"""[2]: the errors, what they derive from, and their attributes."""

import inspect
import unittest

from pairdyes import errors
from pairdyes.errors import DyeError

ATTRIBUTES = {
    "NotDyeing": ["rule", "place"],
    "NotText": ["place"],
    "TooMany": ["limit"],
    "TooGreat": ["limit"],
    "NotFit": [],
    "NotSteps": ["place"],
    "NotClosed": [],
    "NotJoining": [],
    "NotLeads": [],
    "NotEven": [],
    "NotRooms": [],
    "NotPlain": [],
    "NotCut": [],
    "NotAdditive": [],
    "NotWeighing": ["place"],
    "NotTied": [],
    "NotSteady": ["distance"],
    "NotDeed": [],
    "NotDone": [],
    "NotUndone": [],
}


class ErrorsTest(unittest.TestCase):
    def test_dye_error_is_a_direct_subclass_of_value_error(self):
        self.assertEqual(DyeError.__bases__, (ValueError,))

    def test_each_error_is_a_direct_subclass_of_dye_error(self):
        for name in ATTRIBUTES:
            with self.subTest(name=name):
                self.assertEqual(getattr(errors, name).__bases__, (DyeError,))

    def test_no_error_is_a_subclass_of_another_one(self):
        classes = [getattr(errors, name) for name in ATTRIBUTES]
        for one in classes:
            for other in classes:
                if one is not other:
                    self.assertFalse(issubclass(one, other))

    def test_there_are_no_other_errors_and_all_are_defined_there(self):
        found = {name for name, value in vars(errors).items() if inspect.isclass(value)}
        self.assertEqual(found, {"DyeError", *ATTRIBUTES})
        for name in found:
            self.assertEqual(getattr(errors, name).__module__, "pairdyes.errors")

    def test_attributes_are_set_when_the_error_is_created(self):
        for name, attributes in ATTRIBUTES.items():
            with self.subTest(name=name):
                values = [("form", "row", 7)[-1 - at] for at in range(len(attributes))]
                error = getattr(errors, name)(*values)
                self.assertEqual([getattr(error, attribute) for attribute in attributes], values)
                self.assertEqual(set(vars(error)), set(attributes))
                self.assertIsInstance(str(error), str)


if __name__ == "__main__":
    unittest.main()
