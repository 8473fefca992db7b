"""[12] and the head of "The interface": the errors, their families and their fields."""

import unittest

from compassless import errors
from tests.interface import ERRORS


def every_error():
    """Triples of a family, the name of an error and its fields."""
    for family, members in ERRORS["FloorError"].items():
        for name, fields in members.items():
            yield family, name, fields


class Errors(unittest.TestCase):
    def test_seventeen(self):
        self.assertEqual(len(list(every_error())), 17)

    def test_bases(self):
        self.assertEqual(errors.FloorError.__bases__, (ValueError,))
        for family in ERRORS["FloorError"]:
            self.assertEqual(getattr(errors, family).__bases__, (errors.FloorError,))
        for family, name, _ in every_error():
            self.assertEqual(getattr(errors, name).__bases__, (getattr(errors, family),), name)

    def test_defined_there(self):
        for _, name, _ in every_error():
            self.assertEqual(getattr(errors, name).__module__, "compassless.errors")

    def test_fields_are_kept_as_they_are(self):
        class Odd:
            """A value that is like no other one."""

        values = [[1, [2]], ("a", None), Odd()]
        for _, name, fields in every_error():
            made = getattr(errors, name)(*values[: len(fields)])
            self.assertEqual(set(vars(made)), set(fields), name)
            for field, value in zip(fields, values):
                self.assertIs(getattr(made, field), value, name)

    def test_by_name(self):
        for _, name, fields in every_error():
            values = {field: [field] for field in reversed(fields)}
            made = getattr(errors, name)(**values)
            for field in fields:
                self.assertIs(getattr(made, field), values[field], name)

    def test_exactly_these_fields(self):
        for _, name, fields in every_error():
            kind = getattr(errors, name)
            with self.assertRaises(TypeError):
                kind(*[0] * (len(fields) - 1))
            with self.assertRaises(TypeError):
                kind(*[0] * (len(fields) + 1))
            with self.assertRaises(TypeError):
                kind(*[0] * len(fields), other=1)

    def test_caught_by_family(self):
        for family, name, fields in every_error():
            with self.assertRaises(getattr(errors, family)):
                raise getattr(errors, name)(*[0] * len(fields))


if __name__ == "__main__":
    unittest.main()
