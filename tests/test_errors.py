import unittest

from tracebook import errors

FIELDS = {
    "BadSize": (),
    "Stranger": ("row", "column"),
    "NoUnit": (),
    "NoBack": ("thing",),
    "NotTogether": ("one", "two", "three"),
    "NoPart": (),
    "NotSteady": ("turner", "thing"),
    "BadWheel": (),
    "NoMove": (),
    "BadMarks": (),
    "NoWay": ("one", "two"),
    "NotKept": ("thing",),
    "OtherGroup": (),
    "OtherWheel": (),
    "TooGreat": (),
}


def made(name):
    return getattr(errors, name)(*range(7, 7 + len(FIELDS[name])))


class RefusalClasses(unittest.TestCase):
    def test_book_error_stands_straight_beneath_value_error(self):
        self.assertEqual(errors.BookError.__bases__, (ValueError,))

    def test_each_refusal_stands_straight_beneath_book_error(self):
        for name in FIELDS:
            with self.subTest(name):
                self.assertEqual(getattr(errors, name).__bases__, (errors.BookError,))
                self.assertEqual(getattr(errors, name).__name__, name)

    def test_no_other_class_is_there(self):
        there = [name for name, value in vars(errors).items() if isinstance(value, type)]
        self.assertEqual(sorted(there), sorted(list(FIELDS) + ["BookError"]))

    def test_none_is_caught_by_another_refusals_name(self):
        for name in FIELDS:
            for other in FIELDS:
                with self.subTest(name, other=other):
                    caught = isinstance(made(name), getattr(errors, other))
                    self.assertEqual(caught, name == other)

    def test_each_has_its_fields_and_no_more(self):
        for name, fields in FIELDS.items():
            with self.subTest(name):
                values = dict(zip(fields, range(7, 10)))
                self.assertEqual(vars(made(name)), values)

    def test_each_can_be_raised_and_caught_as_value_error(self):
        for name in FIELDS:
            with self.subTest(name), self.assertRaises(ValueError) as caught:
                raise made(name)
            self.assertIs(caught.exception.__class__, getattr(errors, name))


if __name__ == "__main__":
    unittest.main()
