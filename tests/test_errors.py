"""[2] and the section owedanswers/errors.py: the errors and their fields."""

import unittest

from owedanswers import errors

FIELDS = {
    "BadSymbol": ("symbol",),
    "BadDomain": ("symbol",),
    "BadFunction": ("row",),
    "TooMany": ("what",),
    "NotCut": ("row",),
    "Amid": ("half",),
    "Closed": ("number",),
    "Starved": ("number",),
    "Failed": ("row",),
    "Cut": ("row",),
    "BadDoor": ("word",),
    "BadName": ("name",),
    "NotLent": ("number",),
    "BadMove": ("at",),
    "Faulty": ("kind", "lengths", "moves"),
}
VALUES = ("left", (2, 0), ((0, "go"), (1, "cut")))


class ErrorsTest(unittest.TestCase):

    def made(self, name):
        """The class and values for its fields."""
        return getattr(errors, name), VALUES[:len(FIELDS[name])]

    def test_made_by_position(self):
        for name, fields in FIELDS.items():
            made, values = self.made(name)
            error = made(*values)
            self.assertEqual(tuple(getattr(error, field) for field in fields), values, name)

    def test_made_by_name(self):
        for name, fields in FIELDS.items():
            made, values = self.made(name)
            error = made(**dict(zip(reversed(fields), reversed(values))))
            self.assertEqual(tuple(getattr(error, field) for field in fields), values, name)

    def test_each_number_of_fields(self):
        for name in FIELDS:
            made, values = self.made(name)
            with self.assertRaises(TypeError):
                made(*values, 1)
            with self.assertRaises(TypeError):
                made(*values[1:])

    def test_fields_keep_their_values(self):
        self.assertEqual(errors.BadFunction(-1).row, -1)
        self.assertEqual(errors.BadFunction(10 ** 59).row, 10 ** 59)
        self.assertEqual(errors.BadSymbol("").symbol, "")
        self.assertEqual(errors.TooMany("rows").what, "rows")

    def test_directly_under_owed_error(self):
        for name in FIELDS:
            self.assertEqual(getattr(errors, name).__bases__, (errors.OwedError,), name)
        self.assertEqual(errors.OwedError.__bases__, (ValueError,))

    def test_none_is_of_the_class_of_another(self):
        for name in FIELDS:
            made, values = self.made(name)
            error = made(*values)
            self.assertIsInstance(error, errors.OwedError)
            self.assertIsInstance(error, ValueError)
            for other in FIELDS:
                self.assertEqual(isinstance(error, getattr(errors, other)), name == other, (name, other))

    def test_defined_in_this_file(self):
        for name in [*FIELDS, "OwedError"]:
            self.assertEqual(getattr(errors, name).__module__, "owedanswers.errors")
            self.assertEqual(getattr(errors, name).__name__, name)

    def test_raised_and_caught(self):
        for name in FIELDS:
            made, values = self.made(name)
            with self.assertRaises(made):
                raise made(*values)
            with self.assertRaises(errors.OwedError):
                raise made(*values)

    def test_owed_error_with_a_message(self):
        error = errors.OwedError("nothing is owed")
        self.assertEqual(str(error), "nothing is owed")
        self.assertEqual(error.args, ("nothing is owed",))
        self.assertIsInstance(error, ValueError)
        for name in FIELDS:
            self.assertNotIsInstance(error, getattr(errors, name))

    def test_each_has_a_message(self):
        for name in FIELDS:
            made, values = self.made(name)
            self.assertNotEqual(str(made(*values)), "", name)


if __name__ == "__main__":
    unittest.main()
