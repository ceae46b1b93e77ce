import unittest

from axisticks import errors

NAMES = [
    "InvalidRule", "InvalidRange", "InvalidSet", "InvalidBase",
    "InvalidNumber", "InvalidFactor", "InvalidEnd", "InvalidRules",
]


def classes():
    return [getattr(errors, name) for name in NAMES]


class ErrorClasses(unittest.TestCase):
    """[5]"""

    def test_base_of_all_is_a_value_error(self):
        self.assertEqual(errors.AxisTicksError.__bases__, (ValueError,))

    def test_each_is_derived_directly_from_the_base_of_all(self):
        for made in classes():
            self.assertEqual(made.__bases__, (errors.AxisTicksError,), made)

    def test_none_is_derived_from_another_one(self):
        for made in classes():
            for other in classes():
                self.assertEqual(issubclass(made, other), made is other, (made, other))

    def test_each_is_defined_in_the_module_under_its_name(self):
        for made, name in zip(classes(), NAMES):
            self.assertEqual((made.__module__, made.__name__), ("axisticks.errors", name))

    def test_value_by_position_and_by_name(self):
        values = [0, -5, True, "word", [1, [2]], (1, (2,)), {"a": 1}, errors.InvalidEnd("x")]
        for made in classes():
            for value in values:
                self.assertIs(made(value).value, value)
                self.assertIs(made(value=value).value, value)

    def test_value_is_none_without_one(self):
        for made in classes():
            self.assertIsNone(made().value)
            self.assertIsNone(made(None).value)
            self.assertIsNone(made(value=None).value)

    def test_a_tuple_is_held_as_it_is(self):
        for made in classes():
            for value in [(), (1,), (None, 2, [3])]:
                self.assertIs(made(value).value, value)

    def test_each_can_be_raised_and_caught(self):
        for made in classes():
            with self.assertRaises(errors.AxisTicksError) as caught:
                raise made(7)
            self.assertEqual((caught.exception.__class__, caught.exception.value), (made, 7))


if __name__ == "__main__":
    unittest.main()
