import unittest

from wirechannel import errors

RING = [(0, 1, 2), (1, 0, 3)]
PIECES = [("a", 0, 4, 1), ("b", 1, 3, 2)]

# Each class with values for its fields, in their order.
FIELDS = {
    "BadText": {},
    "Lone": {"word": "a"},
    "NoNet": {"word": "b"},
    "BadBend": {"column": 3},
    "BadKeep": {"place": 0},
    "NoOrder": {"ring": RING},
    "NoLayout": {"pieces": PIECES, "ring": RING},
    "BadDrawing": {},
    "Taken": {"word": "abc"},
    "PinTaken": {"pin": ("top", 5)},
    "BadPile": {},
}


class ErrorsTest(unittest.TestCase):
    def test_wire_error_stands_straight_under_value_error(self):
        self.assertEqual(errors.WireError.__bases__, (ValueError,))

    def test_each_refusal_stands_straight_under_wire_error(self):
        for name in FIELDS:
            with self.subTest(name):
                self.assertEqual(getattr(errors, name).__bases__, (errors.WireError,))

    def test_no_refusal_stands_under_another_one(self):
        for name in FIELDS:
            for other in FIELDS:
                if name != other:
                    with self.subTest(name=name, other=other):
                        self.assertFalse(issubclass(getattr(errors, name), getattr(errors, other)))

    def test_there_are_just_these_refusals(self):
        found = [
            name for name, value in vars(errors).items()
            if isinstance(value, type) and issubclass(value, errors.WireError) and name != "WireError"
        ]
        self.assertEqual(sorted(found), sorted(FIELDS))

    def test_each_is_made_and_raised_with_its_fields(self):
        for name, fields in FIELDS.items():
            with self.subTest(name):
                refusal = getattr(errors, name)
                with self.assertRaises(refusal) as caught:
                    raise refusal(*fields.values())
                self.assertEqual(vars(caught.exception), fields)

    def test_each_is_caught_as_wire_error_and_as_value_error(self):
        for name, fields in FIELDS.items():
            for base in (errors.WireError, ValueError):
                with self.subTest(name=name, base=base):
                    with self.assertRaises(base):
                        raise getattr(errors, name)(*fields.values())

    def test_wire_error_itself_is_raised(self):
        with self.assertRaises(errors.WireError):
            raise errors.WireError("words")

    def test_a_refusal_with_words_of_its_own(self):
        for name in ("BadText", "BadDrawing", "BadPile"):
            with self.subTest(name):
                self.assertEqual(str(getattr(errors, name)("words")), "words")

    def test_a_number_too_long_to_be_written_does_no_harm(self):
        huge = 10 ** 10000
        for refusal in (errors.PinTaken(("top", huge)), errors.BadBend(huge), errors.BadKeep(huge)):
            with self.subTest(refusal.__class__.__name__):
                self.assertNotEqual(str(refusal), "")
                self.assertNotEqual(repr(refusal), "")


if __name__ == "__main__":
    unittest.main()
