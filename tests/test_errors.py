import unittest

from middleweb import errors
from tests.helper import REFUSALS

PLAIN = (
    errors.NoWeb,
    errors.TooMany,
    errors.NoText,
    errors.NotOne,
    errors.NoRow,
    errors.NoName,
    errors.NoPlace,
)


class Refusals(unittest.TestCase):
    def test_web_error_is_a_value_error(self):
        self.assertEqual(errors.WebError.__bases__, (ValueError,))

    def test_each_stands_under_web_error_and_under_no_other_one(self):
        for kind in REFUSALS:
            self.assertTrue(issubclass(kind, errors.WebError), kind)
            self.assertTrue(issubclass(kind, ValueError), kind)
            under = [other for other in REFUSALS if issubclass(kind, other)]
            self.assertEqual(under, [kind])

    def test_each_has_its_name(self):
        names = ["NoWeb", "NotClosed", "TooMany", "NoFit", "NoText", "NotOne", "NoRow", "NoName", "NoPlace"]
        self.assertEqual([kind.__name__ for kind in REFUSALS], names)

    def test_plain_ones_are_raised_with_and_without_words(self):
        for kind in PLAIN:
            with self.assertRaises(kind):
                raise kind("words")
            with self.assertRaises(errors.WebError):
                raise kind()

    def test_not_closed_has_its_field(self):
        with self.assertRaises(errors.NotClosed) as caught:
            raise errors.NotClosed((0, 2, 1))
        self.assertEqual(caught.exception.three, (0, 2, 1))

    def test_no_fit_has_its_field(self):
        with self.assertRaises(errors.NoFit) as caught:
            raise errors.NoFit((0, 3))
        self.assertEqual(caught.exception.pair, (0, 3))

    def test_fields_are_each_object_s_own(self):
        first, second = errors.NotClosed((0, 2, 1)), errors.NotClosed((3, 5, 4))
        self.assertEqual((first.three, second.three), ((0, 2, 1), (3, 5, 4)))
        one, other = errors.NoFit((0, 1)), errors.NoFit((1, 2))
        self.assertEqual((one.pair, other.pair), ((0, 1), (1, 2)))


if __name__ == "__main__":
    unittest.main()
