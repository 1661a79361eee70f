import unittest

from shapefree import errors

FIELDS = {
    "BadText": "at",
    "Twice": "name",
    "NoName": "name",
    "WrongCount": "name",
    "NoWorld": "word",
    "TooLong": "most",
    "TooMany": "most",
    "NoStep": None,
    "NoRow": None,
}


def made(name, value):
    kind = getattr(errors, name)
    return kind() if FIELDS[name] is None else kind(value)


class TestErrors(unittest.TestCase):
    def test_base(self):
        self.assertEqual(errors.ShapeError.__bases__, (ValueError,))
        for name in FIELDS:
            self.assertTrue(issubclass(getattr(errors, name), errors.ShapeError), name)

    def test_none_stands_under_another(self):
        for one in FIELDS:
            for other in FIELDS:
                if one != other:
                    self.assertFalse(issubclass(getattr(errors, one), getattr(errors, other)), (one, other))

    def test_fields(self):
        for name, field in FIELDS.items():
            if field is not None:
                for value in (0, 17, "abc"):
                    self.assertEqual(getattr(made(name, value), field), value)

    def test_made_by_the_argument_s_name(self):
        for name, field in FIELDS.items():
            if field is not None:
                self.assertEqual(getattr(getattr(errors, name)(**{field: 5}), field), 5)

    def test_made_of_just_that(self):
        for name, field in FIELDS.items():
            kind = getattr(errors, name)
            with self.assertRaises(TypeError):
                kind(*([1] if field is None else []))
            with self.assertRaises(TypeError):
                kind(1, 2)

    def test_raised_and_taken(self):
        for name in FIELDS:
            with self.assertRaises(errors.ShapeError):
                raise made(name, 3)


if __name__ == "__main__":
    unittest.main()
