"""The error classes."""

import unittest

from wantedwork import errors

OF_WORK = {
    "InvalidPlan": "part",
    "InvalidProgram": "name",
    "InvalidName": "value",
    "InvalidKey": "value",
    "InvalidNumber": "value",
    "InvalidPolicy": "value",
    "InvalidLog": "index",
    "InvalidText": "line",
    "InvalidCommand": "value",
}
OTHERS = {
    "UnknownTask": (KeyError, "key"),
    "NotHeld": (LookupError, "key"),
    "LeaseLost": (RuntimeError, "worker"),
    "LimitExceeded": (OverflowError, "limit"),
}
FIELDS = {**OF_WORK, **{name: OTHERS[name][1] for name in OTHERS}}


class ErrorsTest(unittest.TestCase):
    def test_base_classes(self):
        self.assertEqual(errors.WorkError.__bases__, (ValueError,))
        for name in OF_WORK:
            self.assertEqual(getattr(errors, name).__bases__, (errors.WorkError,), name)
        for name, (base, _) in OTHERS.items():
            self.assertEqual(getattr(errors, name).__bases__, (base,), name)

    def test_none_is_a_subclass_of_another_one(self):
        for name in FIELDS:
            for other in FIELDS:
                if name != other:
                    self.assertFalse(issubclass(getattr(errors, name), getattr(errors, other)), (name, other))

    def test_the_others_are_no_work_errors(self):
        for name in OTHERS:
            self.assertFalse(issubclass(getattr(errors, name), errors.WorkError), name)

    def test_each_stores_its_argument_by_position_and_by_name(self):
        for name, field in FIELDS.items():
            kind = getattr(errors, name)
            for value in ("a", 3, None, ["x"], {}, (True,)):
                self.assertIs(getattr(kind(value), field), value)
                self.assertIs(getattr(kind(**{field: value}), field), value)

    def test_each_takes_exactly_one_argument(self):
        for name in FIELDS:
            kind = getattr(errors, name)
            with self.assertRaises(TypeError):
                kind()
            with self.assertRaises(TypeError):
                kind(1, 2)

    def test_each_has_a_text_whatever_it_stores(self):
        class Shy:
            def __repr__(self):
                raise RuntimeError

        for name, field in FIELDS.items():
            kind = getattr(errors, name)
            for value in ("a", 3, None):
                self.assertIsInstance(str(kind(value)), str)
            if field in ("value", "key", "worker"):
                self.assertIsInstance(str(kind(Shy())), str)


if __name__ == "__main__":
    unittest.main()
