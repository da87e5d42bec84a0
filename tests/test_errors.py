"""Promise 3: the refusals."""
import unittest

from laidfields.errors import FieldError, NoBytes, NoMake, NoName, NoRow, NoText, NoValue

REFUSALS = [NoValue, NoBytes, NoMake, NoText, NoName, NoRow]
TEXTS = ["", "a", "no such make: 3", "two\nlines", "'", "100 of 100", "x" * 4000]


class TestErrors(unittest.TestCase):
    def test_field_error_stands_straight_under_value_error(self):
        self.assertEqual(FieldError.__bases__, (ValueError,))

    def test_each_refusal_stands_straight_under_field_error(self):
        for refusal in REFUSALS:
            self.assertEqual(refusal.__bases__, (FieldError,))

    def test_no_refusal_stands_under_another(self):
        self.assertEqual(len(set(REFUSALS)), 6)
        for one in REFUSALS:
            for other in REFUSALS:
                self.assertEqual(issubclass(one, other), one is other)

    def test_each_bears_its_name(self):
        names = ["FieldError", "NoValue", "NoBytes", "NoMake", "NoText", "NoName", "NoRow"]
        self.assertEqual([each.__name__ for each in [FieldError] + REFUSALS], names)

    def test_str_tells_the_text(self):
        for refusal in [FieldError] + REFUSALS:
            for text in TEXTS:
                self.assertEqual(str(refusal(text)), text)

    def test_each_is_raised_and_taken_as_itself_and_as_field_error(self):
        for refusal in REFUSALS:
            for taken in [refusal, FieldError, ValueError]:
                with self.assertRaises(taken) as caught:
                    raise refusal("why")
                self.assertIs(type(caught.exception), refusal)
                self.assertEqual(str(caught.exception), "why")

    def test_one_is_not_taken_as_another(self):
        for refusal in REFUSALS:
            others = tuple(other for other in REFUSALS if other is not refusal)
            self.assertNotIsInstance(refusal("why"), others)


if __name__ == "__main__":
    unittest.main()
