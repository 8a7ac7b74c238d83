import unittest

from wellroads import errors
from wellroads.errors import BadNumber, BadRow, BadTree, NoRoad, NoVillage, RoadError


class Errors(unittest.TestCase):
    def test_road_error_stands_straight_under_value_error(self):
        self.assertEqual(errors.RoadError.__bases__, (ValueError,))

    def test_all_others_stand_straight_under_road_error(self):
        for kind in (BadTree, NoVillage, NoRoad, BadNumber, BadRow):
            self.assertEqual(kind.__bases__, (RoadError,), kind)

    def test_bad_row_has_its_row(self):
        self.assertEqual(BadRow(3).row, 3)
        with self.assertRaises(BadRow) as caught:
            raise BadRow(14)
        self.assertEqual(caught.exception.row, 14)

    def test_the_others_can_be_made_with_words(self):
        for kind in (RoadError, BadTree, NoVillage, NoRoad, BadNumber):
            self.assertIn("words", str(kind("words")))


if __name__ == "__main__":
    unittest.main()
