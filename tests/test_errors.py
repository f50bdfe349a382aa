import unittest

from floodtree.errors import FloodError, NoCell, NoFloor, NoRow


class ErrorsTest(unittest.TestCase):
    def test_flood_error_stands_straight_under_value_error(self):
        self.assertEqual(FloodError.__bases__, (ValueError,))

    def test_each_refusal_stands_under_flood_error(self):
        for refusal in (NoCell, NoRow, NoFloor):
            self.assertTrue(issubclass(refusal, FloodError), refusal)

    def test_no_refusal_stands_under_another_one(self):
        refusals = (NoCell, NoRow, NoFloor)
        for one in refusals:
            for other in refusals:
                self.assertEqual(issubclass(one, other), one is other, (one, other))

    def test_no_floor_has_its_line(self):
        for line in (0, 3, 12):
            self.assertEqual(NoFloor(line).line, line)
        with self.assertRaises(FloodError) as taken:
            raise NoFloor(7)
        self.assertEqual(taken.exception.line, 7)

    def test_two_errors_keep_their_own_lines(self):
        one, other = NoFloor(1), NoFloor(2)
        self.assertEqual((one.line, other.line), (1, 2))

    def test_the_others_are_made_with_words(self):
        for refusal in (FloodError, NoCell, NoRow):
            self.assertEqual(str(refusal("so")), "so")


if __name__ == "__main__":
    unittest.main()
