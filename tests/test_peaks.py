import unittest

from floodtree.lakes import tree_of
from floodtree.peaks import high_stretches, peaks_of, turned
from tests.helper import (
    CHESS, COMB, NESTED, REACHES, TOP, cells_of, chance_floors, flat, floors_to_walk, height_at, heights_in_bounds,
    large_floors, parts_of, some, tree_by_walking,
)

ROW = [[1, 3, 0, 2, 1]]
CROSS = [[9, 1, 9], [2, 5, 0], [9, 3, 9]]
RAISED = [[7, 5], [9, 6], [5, 8]]
LEVEL = [[4] * 12 for row in range(12)]
# Ridges that shut in other ridges, where lakes of the turned floor lie within lakes.
RIDGES = [[9 - height for height in row] for row in NESTED]
FLOORS = floors_to_walk() + [RAISED, RIDGES] + chance_floors(41, 10, 12, 12)


def turned_by_hand(floor):
    least, greatest = min(flat(floor)), max(flat(floor))
    return [[least + greatest - height for height in row] for row in floor]


def walk_high(floor, reach, height):
    return parts_of(floor, reach, {cell for cell in cells_of(floor) if height_at(floor, cell) >= height})


class TurnedTest(unittest.TestCase):
    def test_one_row(self):
        self.assertEqual(turned(ROW), [[2, 0, 3, 1, 2]])

    def test_one_column(self):
        self.assertEqual(turned([[height] for height in ROW[0]]), [[2], [0], [3], [1], [2]])

    def test_a_least_height_above_nothing(self):
        self.assertEqual(turned(RAISED), [[7, 9], [5, 8], [9, 6]])
        self.assertEqual(turned([[5, 6, 9]]), [[9, 8, 5]])

    def test_a_floor_of_one_height_stays(self):
        for floor in ([[0]], [[TOP]], [[7, 7, 7]], [[7], [7]], LEVEL):
            self.assertEqual(turned(floor), floor)

    def test_the_least_and_the_greatest_height(self):
        self.assertEqual(turned([[0, TOP, 1], [TOP - 1, 0, TOP]]), [[TOP, 0, TOP - 1], [1, TOP, 0]])
        self.assertEqual(turned(COMB), [[TOP, 0] * 6 for row in range(12)])

    def test_the_least_and_the_greatest_stand_in_any_row(self):
        self.assertEqual(turned([[4, 5], [2, 9]]), [[7, 6], [9, 2]])
        self.assertEqual(turned([[2, 9], [4, 5]]), [[9, 2], [7, 6]])

    def test_by_hand(self):
        for floor in FLOORS + large_floors():
            self.assertEqual(turned(floor), turned_by_hand(floor), floor)

    def test_turned_twice_it_is_the_floor_again(self):
        for floor in FLOORS + large_floors():
            self.assertEqual(turned(turned(floor)), floor)

    def test_somewhat_beyond_the_bounds(self):
        self.assertEqual(turned([[-1, TOP + 1]]), [[TOP + 1, -1]])
        self.assertEqual(turned([[0] * 12 + [1] for row in range(13)]), [[1] * 12 + [0] for row in range(13)])
        self.assertEqual((turned([]), peaks_of([], 4), high_stretches([], 4, 0)), ([], [], []))


class PeaksTest(unittest.TestCase):
    def test_one_row(self):
        for reach in REACHES:
            self.assertEqual(peaks_of(ROW, reach), [(1, None, None), (3, 2, 1)])
            self.assertEqual(peaks_of([[height] for height in ROW[0]], reach), [(1, None, None), (3, 2, 1)])

    def test_a_square_floor_by_both_reaches(self):
        peaks = [(0, None, None), (2, 1, 0), (6, 3, 0), (8, 7, 6), (4, 7, 6)]
        self.assertEqual(peaks_of(CROSS, 4), peaks)
        self.assertEqual(peaks_of(CROSS, 8), [(0, None, None), (2, 4, 0), (6, 4, 0), (8, 4, 0)])

    def test_more_rows_than_columns(self):
        self.assertEqual(peaks_of(RAISED, 4), [(2, None, None), (5, 3, 2)])
        self.assertEqual(peaks_of(RAISED, 8), [(2, None, None)])

    def test_alike_heights_go_by_number(self):
        self.assertEqual(peaks_of([[5, 1, 5]], 4), [(0, None, None), (2, 1, 0)])
        self.assertEqual(peaks_of(LEVEL, 8), [(0, None, None)])

    def test_the_highest_peak_is_not_the_first_in_number(self):
        self.assertEqual(peaks_of([[4, 1, 5]], 4), [(2, None, None), (0, 1, 2)])

    def test_one_cell(self):
        for height in (0, TOP):
            self.assertEqual(peaks_of([[height]], 4), [(0, None, None)])

    def test_they_are_the_tree_of_the_turned_floor(self):
        for floor in FLOORS + large_floors():
            for reach in REACHES:
                self.assertEqual(peaks_of(floor, reach), tree_of(turned_by_hand(floor), reach), (floor, reach))

    def test_walked_cell_by_cell(self):
        for floor in floors_to_walk() + [RAISED, RIDGES]:
            for reach in REACHES:
                told = peaks_of(floor, reach)
                self.assertEqual(told, tree_by_walking(turned_by_hand(floor), reach), (floor, reach))


class HighStretchesTest(unittest.TestCase):
    def test_one_row(self):
        for reach in REACHES:
            self.assertEqual(high_stretches(ROW, reach, 0), [[0, 1, 2, 3, 4]])
            self.assertEqual(high_stretches(ROW, reach, 1), [[0, 1], [3, 4]])
            self.assertEqual(high_stretches(ROW, reach, 2), [[1], [3]])
            self.assertEqual(high_stretches(ROW, reach, 3), [[1]])
            self.assertEqual(high_stretches(ROW, reach, 4), [])

    def test_heights_that_no_cell_has(self):
        self.assertEqual(high_stretches([[2, 8, 2, 6]], 4, 7), [[1]])
        self.assertEqual(high_stretches([[2, 8, 2, 6]], 4, 3), [[1], [3]])
        self.assertEqual(high_stretches([[2, 8, 2, 6]], 4, 1), [[0, 1, 2, 3]])

    def test_a_least_height_above_nothing(self):
        self.assertEqual(high_stretches(RAISED, 4, 7), [[0, 2], [5]])
        self.assertEqual(high_stretches(RAISED, 8, 7), [[0, 2, 5]])
        self.assertEqual(high_stretches(RAISED, 4, 8), [[2], [5]])
        self.assertEqual(high_stretches(RAISED, 4, 0), [[0, 1, 2, 3, 4, 5]])

    def test_sorted_by_first_numbers_not_by_heights(self):
        self.assertEqual(high_stretches([[5, 0, 9], [0, 0, 9], [7, 7, 0]], 4, 5), [[0], [2, 5], [6, 7]])

    def test_a_floor_of_one_height(self):
        for reach in REACHES:
            self.assertEqual(high_stretches(LEVEL, reach, 4), [list(range(144))])
            self.assertEqual(high_stretches(LEVEL, reach, 3), [list(range(144))])
            self.assertEqual(high_stretches(LEVEL, reach, 5), [])

    def test_the_least_and_the_greatest_height(self):
        for reach in REACHES:
            ridges = [list(range(column, 144, 12)) for column in range(1, 12, 2)]
            self.assertEqual(high_stretches(COMB, reach, TOP), ridges)
            self.assertEqual(high_stretches(COMB, reach, 1), ridges)
            self.assertEqual(high_stretches(COMB, reach, 0), [list(range(144))])
            self.assertEqual(high_stretches([[TOP]], reach, TOP), [[0]])
            self.assertEqual(high_stretches([[0]], reach, TOP), [])
            self.assertEqual(high_stretches([[0]], reach, 0), [[0]])

    def test_corners_by_reach_eight_alone(self):
        ones = [row * 12 + column for row in range(12) for column in range(12) if (row + column) % 2]
        self.assertEqual(high_stretches(CHESS, 4, 1), [[cell] for cell in ones])
        self.assertEqual(high_stretches(CHESS, 8, 1), [ones])

    def test_walked_cell_by_cell(self):
        for floor in FLOORS:
            for reach in REACHES:
                for height in some(heights_in_bounds(floor), 90):
                    told = high_stretches(floor, reach, height)
                    self.assertEqual(told, walk_high(floor, reach, height), (floor, reach, height))

    def test_large_floors_walked_cell_by_cell(self):
        for floor in large_floors():
            for reach in REACHES:
                for height in some(heights_in_bounds(floor), 40):
                    self.assertEqual(high_stretches(floor, reach, height), walk_high(floor, reach, height))


if __name__ == "__main__":
    unittest.main()
