"""Point 3: the refusals."""

import unittest

from recutkeys import errors
from tests.samples import ODD

# Each refusal: the error it stands straight under, and its fields in order.
REFUSALS = {
    "NoText": (ValueError, ["row"]),
    "NoStep": (ValueError, ["why"]),
    "NoWay": (ValueError, ["at", "why"]),
    "NoMove": (ValueError, ["at"]),
    "NoName": (KeyError, ["asked"]),
    "NoPart": (KeyError, ["asked"]),
    "NoNumber": (IndexError, ["asked"]),
    "NoMoment": (IndexError, ["asked"]),
    "NoMore": (LookupError, ["word"]),
    "TooMany": (OverflowError, ["most"]),
}
PYTHONS = (ValueError, KeyError, IndexError, LookupError, OverflowError, ArithmeticError, TypeError)


class RefusalTest(unittest.TestCase):
    def test_each_stands_straight_under_its_error(self):
        for name, (base, _) in REFUSALS.items():
            with self.subTest(name):
                self.assertEqual(getattr(errors, name).__bases__, (base,))

    def test_each_stands_under_no_other_error(self):
        for name, (base, _) in REFUSALS.items():
            for other in PYTHONS:
                with self.subTest(name, other=other):
                    self.assertEqual(issubclass(getattr(errors, name), other), issubclass(base, other))

    def test_none_stands_under_another_one(self):
        for name in REFUSALS:
            for other in REFUSALS:
                if name != other:
                    self.assertFalse(issubclass(getattr(errors, name), getattr(errors, other)))

    def test_fields_by_their_places_of_anything(self):
        for name, (_, fields) in REFUSALS.items():
            for thing in ODD:
                values = [thing, (thing,)][:len(fields)]
                refusal = getattr(errors, name)(*values)
                for field, value in zip(fields, values):
                    self.assertIs(getattr(refusal, field), value)

    def test_fields_by_their_names(self):
        for name, (_, fields) in REFUSALS.items():
            values = {field: [field] for field in fields}
            refusal = getattr(errors, name)(**values)
            for field in fields:
                self.assertIs(getattr(refusal, field), values[field])

    def test_no_field_more_or_fewer(self):
        for name, (_, fields) in REFUSALS.items():
            with self.assertRaises(TypeError):
                getattr(errors, name)(*range(len(fields) + 1))
            with self.assertRaises(TypeError):
                getattr(errors, name)(*range(len(fields) - 1))

    def test_each_can_be_raised_and_caught(self):
        for name, (base, fields) in REFUSALS.items():
            with self.assertRaises(base) as caught:
                raise getattr(errors, name)(*fields)
            self.assertEqual([getattr(caught.exception, field) for field in fields], fields)


if __name__ == "__main__":
    unittest.main()
