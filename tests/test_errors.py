import unittest

from askwithin.errors import AskError, Full, NoDeed, NoName, NoRow, NoTable, NoText, TooMany

REFUSALS = [NoTable, NoRow, Full, TooMany, NoText, NoName, NoDeed]


class TestErrors(unittest.TestCase):
    def test_any_refusal_is_an_ask_error_and_a_value_error(self):
        self.assertTrue(issubclass(AskError, ValueError))
        for refusal in REFUSALS:
            self.assertTrue(issubclass(refusal, AskError))
            self.assertTrue(issubclass(refusal, ValueError))

    def test_none_stands_under_another_one(self):
        for one in REFUSALS:
            self.assertFalse(issubclass(AskError, one))
            for other in REFUSALS:
                self.assertEqual(issubclass(one, other), one is other)

    def test_they_can_be_raised_and_taken(self):
        for refusal in REFUSALS:
            for taken in (refusal, AskError, ValueError):
                with self.assertRaises(taken):
                    raise refusal("words")

    def test_each_bears_its_name(self):
        names = ["NoTable", "NoRow", "Full", "TooMany", "NoText", "NoName", "NoDeed"]
        self.assertEqual([refusal.__name__ for refusal in REFUSALS], names)
        self.assertEqual(AskError.__name__, "AskError")


if __name__ == "__main__":
    unittest.main()
