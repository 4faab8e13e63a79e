"""Point 0.2 and the interface: the refusals, their fields and what they stand under."""

import unittest

from foldbough import errors
from foldbough.errors import FoldError, NoFit
from tests.helps import ANYTHING, BRITTLE

OF_A_TEXT = ["NoColumns", "NoStretch", "NoCosts", "NothingDone"]

FIELDS = {
    "NoRow": "at", "NoTree": "at", "NoFold": "at", "NoPaper": "at", "NoPlace": "at", "NoText": "at", "NoLine": "at",
    "NoColumn": "name", "NoName": "name", "NoTurn": "name", "NoBunch": "number", "TooMany": "many",
}


class Refusals(unittest.TestCase):
    def test_fold_error_is_a_value_error(self):
        self.assertEqual(FoldError.__bases__, (ValueError,))

    def test_each_stands_straight_under_fold_error(self):
        for word in OF_A_TEXT + list(FIELDS) + ["NoFit"]:
            self.assertEqual(getattr(errors, word).__bases__, (FoldError,), word)

    def test_there_are_no_others_under_fold_error(self):
        told = sorted(kind.__name__ for kind in FoldError.__subclasses__() if kind.__module__ == errors.__name__)
        self.assertEqual(told, sorted(OF_A_TEXT + list(FIELDS) + ["NoFit"]))

    def test_of_a_text_or_of_nothing(self):
        for word in OF_A_TEXT + ["FoldError"]:
            kind = getattr(errors, word)
            self.assertEqual(str(kind("why not")), "why not")
            self.assertIsInstance(kind(), ValueError)

    def test_field_by_place_and_by_name(self):
        for word, field in FIELDS.items():
            kind = getattr(errors, word)
            self.assertEqual(getattr(kind(7), field), 7, word)
            self.assertEqual(getattr(kind(**{field: 8}), field), 8, word)

    def test_field_may_be_of_any_kind(self):
        for word, field in FIELDS.items():
            for thing in [None, -1, True, [1], {}, ANYTHING, BRITTLE, 10 ** 5000]:
                kind = getattr(errors, word)
                self.assertIs(getattr(kind(thing), field), thing, word)
                self.assertIs(getattr(kind(**{field: thing}), field), thing, word)

    def test_field_is_due(self):
        for word in list(FIELDS) + ["NoFit"]:
            with self.assertRaises(TypeError):
                getattr(errors, word)()

    def test_two_fields_of_no_fit(self):
        for told in [NoFit("a", None), NoFit(one="a", other=None), NoFit("a", other=None), NoFit(other=None, one="a")]:
            self.assertEqual((told.one, told.other), ("a", None))

    def test_caught_as_any_refusal(self):
        for word in FIELDS:
            with self.assertRaises(FoldError):
                raise getattr(errors, word)(3)
            with self.assertRaises(ValueError):
                raise getattr(errors, word)(3)


if __name__ == "__main__":
    unittest.main()
