import unittest

from nestsets.errors import NoNumber, NoPair, NoSet, NoText, SetError

REFUSALS = (NoNumber, NoText, NoPair, NoSet)


class Errors(unittest.TestCase):
    def test_set_error_stands_below_value_error(self):
        self.assertEqual(SetError.__bases__, (ValueError,))

    def test_each_refusal_stands_below_set_error(self):
        for refusal in REFUSALS:
            self.assertTrue(issubclass(refusal, SetError), refusal)
            self.assertIsNot(refusal, SetError)

    def test_no_refusal_stands_below_another(self):
        for one in REFUSALS:
            for other in REFUSALS:
                if one.__name__ != other.__name__:
                    self.assertFalse(issubclass(one, other), (one, other))

    def test_each_is_called_by_its_name(self):
        names = [refusal.__name__ for refusal in REFUSALS]
        self.assertEqual(names, ["NoNumber", "NoText", "NoPair", "NoSet"])
        self.assertEqual(SetError.__name__, "SetError")

    def test_each_is_raised_and_taken_as_set_error_and_value_error(self):
        for refusal in REFUSALS:
            for above in (refusal, SetError, ValueError):
                with self.assertRaises(above):
                    raise refusal("words")


if __name__ == "__main__":
    unittest.main()
