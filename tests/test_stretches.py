import unittest

from floodtree.cells import comes_before, in_order
from floodtree.stretches import stretch_under, stretches_at
from tests.helper import (
    CHESS, COMB, REACHES, TOP, cells_of, floors_to_walk, heights_to_ask, large_floors, walk_at, walk_under,
)

ROW = [[1, 3, 0, 2, 1]]
RING = [[1, 1, 1], [1, 9, 1], [1, 1, 1], [8, 8, 8], [0, 8, 2]]
CORNERED = [[0, 5], [5, 1]]


class StretchUnderTest(unittest.TestCase):
    def test_it_goes_by_ways_not_by_heights_alone(self):
        self.assertEqual(stretch_under(ROW, 4, 4, 4), [4])
        self.assertEqual(stretch_under(ROW, 4, 4, 3), [2, 3, 4])
        self.assertEqual(stretch_under(ROW, 4, 0, 3), [0])
        self.assertEqual(stretch_under(ROW, 4, 0, 1), [0, 1, 2, 3, 4])

    def test_a_later_cell_has_none(self):
        self.assertEqual(stretch_under(ROW, 4, 3, 4), [])
        self.assertEqual(stretch_under([[0], [TOP]], 8, 1, 0), [])

    def test_the_last_cell_itself_has_one(self):
        self.assertEqual(stretch_under(ROW, 4, 3, 3), [2, 3, 4])
        self.assertEqual(stretch_under([[TOP]], 4, 0, 0), [0])

    def test_alike_heights_go_by_number(self):
        level = [[7, 7, 7], [7, 7, 7]]
        self.assertEqual(stretch_under(level, 4, 0, 3), [0, 1, 2, 3])
        self.assertEqual(stretch_under(level, 4, 4, 3), [])
        self.assertEqual(stretch_under(level, 8, 3, 3), [0, 1, 2, 3])
        self.assertEqual(stretch_under([[1, 9, 1], [1, 1, 1]], 4, 2, 4), [2])

    def test_corners_by_reach_eight_alone(self):
        self.assertEqual(stretch_under(CORNERED, 4, 0, 3), [0])
        self.assertEqual(stretch_under(CORNERED, 8, 0, 3), [0, 3])

    def test_more_rows_than_columns(self):
        self.assertEqual(stretch_under(RING, 4, 8, 8), [0, 1, 2, 3, 5, 6, 7, 8])
        self.assertEqual(stretch_under(RING, 4, 14, 8), [])
        self.assertEqual(stretch_under(RING, 4, 14, 9), [14])

    def test_twelve_by_twelve(self):
        self.assertEqual(stretch_under(COMB, 8, 2, 142), list(range(2, 144, 12)))
        self.assertEqual(stretch_under(COMB, 4, 2, 143), list(range(144)))

    def test_walked_cell_by_cell(self):
        for floor in floors_to_walk()[:80]:
            for reach in REACHES:
                for cell in cells_of(floor):
                    for last in cells_of(floor):
                        told = stretch_under(floor, reach, cell, last)
                        self.assertEqual(told, sorted(walk_under(floor, reach, cell, last)), (floor, cell, last))
                        self.assertEqual(told == [], comes_before(floor, last, cell))


class StretchesAtTest(unittest.TestCase):
    def test_one_row(self):
        self.assertEqual(stretches_at(ROW, 4, 0), [[2]])
        self.assertEqual(stretches_at(ROW, 4, 1), [[0], [2], [4]])
        self.assertEqual(stretches_at(ROW, 4, 2), [[0], [2, 3, 4]])
        self.assertEqual(stretches_at(ROW, 4, 3), [[0, 1, 2, 3, 4]])

    def test_sorted_by_first_numbers_not_by_the_order(self):
        self.assertEqual(stretches_at([[3, 9, 0, 9, 1]], 4, 5), [[0], [2], [4]])
        self.assertEqual(stretches_at([[9, 9, 1], [0, 9, 1], [0, 0, 9]], 4, 1), [[2, 5], [3, 6, 7]])

    def test_below_every_cell_there_are_none(self):
        self.assertEqual(stretches_at([[5, 6], [7, 8]], 4, 4), [])
        self.assertEqual(stretches_at([[1]], 8, 0), [])

    def test_heights_between_and_above(self):
        self.assertEqual(stretches_at([[0, 10, 0]], 4, 9), [[0], [2]])
        self.assertEqual(stretches_at([[0, 10, 0]], 4, TOP), [[0, 1, 2]])

    def test_greatest_and_least_height(self):
        self.assertEqual(stretches_at([[0, TOP, 0]], 4, 0), [[0], [2]])
        self.assertEqual(stretches_at([[0, TOP, 0]], 4, TOP), [[0, 1, 2]])

    def test_somewhat_beyond_the_bounds(self):
        self.assertEqual(stretches_at([[0, 1]], 4, -1), [])
        self.assertEqual(stretches_at([[0, TOP + 1]], 4, TOP + 1), [[0, 1]])
        self.assertEqual(stretches_at([[0] * 13] * 13, 4, 0), [list(range(169))])
        self.assertEqual(stretches_at([], 4, 0), [])

    def test_many_stretches(self):
        zeros = [[row * 12 + column] for row in range(12) for column in range(12) if (row + column) % 2 == 0]
        self.assertEqual(stretches_at(CHESS, 4, 0), zeros)
        self.assertEqual(stretches_at(CHESS, 8, 0), [[cell for part in zeros for cell in part]])

    def test_each_is_the_stretch_of_its_cells_under_the_latest_cell_not_higher(self):
        for floor in floors_to_walk()[:80]:
            for height in heights_to_ask(floor):
                covered = [cell for part in stretches_at(floor, 4, height) for cell in part]
                latest = [cell for cell in in_order(floor) if cell in covered][-1:]
                for part in stretches_at(floor, 4, height):
                    for cell in part:
                        self.assertEqual(stretch_under(floor, 4, cell, latest[0]), part)

    def test_walked_cell_by_cell(self):
        for floor in floors_to_walk():
            for reach in REACHES:
                for height in heights_to_ask(floor):
                    told = stretches_at(floor, reach, height)
                    self.assertEqual(told, walk_at(floor, reach, height), (floor, reach, height))

    def test_large_floors_walked_cell_by_cell(self):
        for floor in large_floors():
            for reach in REACHES:
                for height in heights_to_ask(floor)[::15]:
                    self.assertEqual(stretches_at(floor, reach, height), walk_at(floor, reach, height))


if __name__ == "__main__":
    unittest.main()
