"""mendrounds/errors.py: each error, what it stands under, and what it holds."""
import unittest

from mendrounds import errors

OWN = "mendrounds"
LISTED = [
    ("BadNumber", OWN, ["thing"]),
    ("BadLayout", OWN, ["at"]),
    ("BadField", OWN, ["name"]),
    ("BadValue", OWN, ["name"]),
    ("BadFilling", OWN, ["name"]),
    ("BadCondition", OWN, ["at"]),
    ("BadCheck", OWN, ["what"]),
    ("BadForm", OWN, ["at"]),
    ("BadPattern", OWN, ["pattern"]),
    ("NoFilling", OWN, ["pattern"]),
    ("Unlike", OWN, []),
    ("TooMany", OWN, ["what"]),
    ("BadTelling", OWN, ["telling"]),
    ("BadChange", OWN, ["at"]),
    ("BadBatch", OWN, ["at"]),
    ("NoCheck", LookupError, ["name"]),
    ("NotTold", LookupError, ["name"]),
    ("Refused", RuntimeError, ["name", "blames", "cause"]),
    ("Locked", RuntimeError, ["name"]),
    ("Unmet", RuntimeError, ["names"]),
    ("Closed", RuntimeError, []),
    ("Started", RuntimeError, []),
]


class Errors(unittest.TestCase):

    def test_first_of_its_kind(self):
        self.assertEqual(errors.MendroundsError.__bases__, (ValueError,))
        self.assertIsInstance(errors.MendroundsError(), ValueError)

    def test_each_stands_directly_under_its_base(self):
        for name, base, _ in LISTED:
            with self.subTest(name=name):
                wanted = errors.MendroundsError if base == OWN else base
                self.assertEqual(getattr(errors, name).__bases__, (wanted,))
                self.assertEqual(getattr(errors, name).__module__, "mendrounds.errors")

    def test_each_holds_the_very_things_it_is_made_with(self):
        for name, _, fields in LISTED:
            things = [["some", field] for field in fields]
            with self.subTest(name=name):
                by_place = getattr(errors, name)(*things)
                by_name = getattr(errors, name)(**dict(zip(fields, things)))
                for field, thing in zip(fields, things):
                    self.assertIs(getattr(by_place, field), thing)
                    self.assertIs(getattr(by_name, field), thing)

    def test_takes_no_more_and_no_less(self):
        for name, _, fields in LISTED:
            if fields:
                with self.subTest(name=name):
                    self.assertRaises(TypeError, getattr(errors, name))
                    self.assertRaises(TypeError, getattr(errors, name), *fields, "more")

    def test_can_be_raised(self):
        for name, base, fields in LISTED:
            with self.subTest(name=name):
                with self.assertRaises(errors.MendroundsError if base == OWN else base):
                    raise getattr(errors, name)(*fields)

    def test_refused_holds_a_refused(self):
        inner = errors.Refused("first", (), None)
        self.assertIs(errors.Refused("second", ("a",), inner).cause, inner)
        self.assertIsNone(inner.cause)


if __name__ == "__main__":
    unittest.main()
