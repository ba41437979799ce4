"""0.6: the error classes and their attributes."""

import inspect
import unittest

from anyworths import errors

PLACE_WHAT = (
    "BadPool BadSplit BadWish BadText BadRation BadKinds BadDebts BadExchange BadMove BadSeen BadEdit"
).split()
PLACE = "BadChoice BadLots CannotSee CannotAnswer BadGoal".split()
WHAT = "BadHeaps BadDebt BadWay BadPayment BadBand BadBook BadSplits".split()
MOST = "BadCount BadTotal TooMany".split()
PERSON = ["CannotLeave"]
BARE = (
    "BadPeople BadPerson BadAmount BadLot BadNumber BadOrder BadMost BadUnlike BadCoin BadLost BadParts"
    " BadStep BadTurns CannotGuess CannotPay CannotCome CannotTakeBack"
).split()
ATTRIBUTES = {
    **{name: ("place", "what") for name in PLACE_WHAT},
    **{name: ("place",) for name in PLACE},
    **{name: ("what",) for name in WHAT},
    **{name: ("most",) for name in MOST},
    **{name: ("person",) for name in PERSON},
    **{name: () for name in BARE},
}
VALUES = (3, "word")


class Errors(unittest.TestCase):
    def test_the_base_stands_directly_under_value_error(self):
        self.assertEqual(errors.PurseError.__bases__, (ValueError,))

    def test_all_classes_of_the_interface_stand_directly_under_the_base(self):
        self.assertEqual(len(ATTRIBUTES), 44)
        for name in ATTRIBUTES:
            self.assertEqual(getattr(errors, name).__bases__, (errors.PurseError,), name)

    def test_there_are_no_other_classes(self):
        classes = {name for name, thing in vars(errors).items() if inspect.isclass(thing)}
        self.assertEqual(classes, set(ATTRIBUTES) | {"PurseError"})
        for name in classes:
            self.assertEqual(getattr(errors, name).__module__, "anyworths.errors")

    def test_attributes_are_set_by_position_in_the_told_order(self):
        for name, attributes in ATTRIBUTES.items():
            error = getattr(errors, name)(*VALUES[: len(attributes)])
            self.assertEqual(vars(error), dict(zip(attributes, VALUES)), name)

    def test_attributes_are_set_by_name(self):
        for name, attributes in ATTRIBUTES.items():
            told = dict(zip(attributes, VALUES))
            error = getattr(errors, name)(**told)
            self.assertEqual(vars(error), told, name)
            for attribute, value in told.items():
                self.assertEqual(getattr(error, attribute), value)

    def test_all_attributes_must_be_told(self):
        for name, attributes in ATTRIBUTES.items():
            if attributes:
                with self.assertRaises(TypeError):
                    getattr(errors, name)(*VALUES[: len(attributes) - 1])

    def test_each_is_caught_as_the_base_and_as_value_error(self):
        for name, attributes in ATTRIBUTES.items():
            for caught in (errors.PurseError, ValueError):
                with self.assertRaises(caught):
                    raise getattr(errors, name)(*VALUES[: len(attributes)])


if __name__ == "__main__":
    unittest.main()
