import unittest

from leastfloor.errors import FloorError, NoFloor, NoKind, NoName, NoOrder, NoRoom, NoRow, NoText

REFUSALS = [NoRoom, NoOrder, NoText, NoKind, NoFloor, NoRow, NoName]


class ErrorClasses(unittest.TestCase):

    def test_floor_error_stands_under_value_error(self):
        self.assertTrue(issubclass(FloorError, ValueError))

    def test_each_refusal_stands_under_floor_error(self):
        for refusal in REFUSALS:
            self.assertTrue(issubclass(refusal, FloorError), refusal)

    def test_no_refusal_stands_under_another(self):
        for one in REFUSALS:
            self.assertFalse(issubclass(FloorError, one), one)
            for other in REFUSALS:
                self.assertEqual(issubclass(one, other), one is other, (one, other))

    def test_names(self):
        self.assertEqual([refusal.__name__ for refusal in REFUSALS],
                         ["NoRoom", "NoOrder", "NoText", "NoKind", "NoFloor", "NoRow", "NoName"])

    def test_each_is_raised_with_words_of_its_own(self):
        for refusal in REFUSALS + [FloorError]:
            with self.assertRaises(ValueError) as caught:
                raise refusal("some words")
            self.assertEqual(str(caught.exception), "some words")


if __name__ == "__main__":
    unittest.main()
