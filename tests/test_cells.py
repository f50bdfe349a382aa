import unittest

from floodtree.cells import comes_before, height_of, in_order, neighbours, on_rim, size_of
from tests.helper import (
    COMB, EDGES, REACHES, TOP, cells_of, chance_floors, height_at, large_floors, place, sorted_cells, walk_next,
)

FLOORS = EDGES + large_floors() + chance_floors(3, 40, 12, 12)


class SizeTest(unittest.TestCase):
    def test_rows_come_ahead_of_columns(self):
        self.assertEqual(size_of([[1, 2, 3], [4, 5, 6]]), (2, 3))
        self.assertEqual(size_of([[1, 2], [3, 4], [5, 6]]), (3, 2))

    def test_edges(self):
        self.assertEqual(size_of([[0]]), (1, 1))
        self.assertEqual(size_of([[0] * 12]), (1, 12))
        self.assertEqual(size_of([[0]] * 12), (12, 1))
        self.assertEqual(size_of(COMB), (12, 12))

    def test_somewhat_beyond_the_bounds(self):
        self.assertEqual(size_of([[0] * 14] * 13), (13, 14))
        self.assertEqual(size_of([]), (0, 0))


class NeighboursTest(unittest.TestCase):
    def test_in_the_middle(self):
        self.assertEqual(neighbours((3, 4), 4, 5), [1, 4, 6, 9])
        self.assertEqual(neighbours((3, 4), 8, 5), [0, 1, 2, 4, 6, 8, 9, 10])

    def test_at_the_ends_of_rows(self):
        self.assertEqual(neighbours((3, 4), 4, 3), [2, 7])
        self.assertEqual(neighbours((3, 4), 4, 4), [0, 5, 8])
        self.assertEqual(neighbours((3, 4), 8, 7), [2, 3, 6, 10, 11])
        self.assertEqual(neighbours((3, 4), 8, 11), [6, 7, 10])

    def test_one_cell_one_row_one_column(self):
        for reach in REACHES:
            self.assertEqual(neighbours((1, 1), reach, 0), [])
            self.assertEqual(neighbours((1, 12), reach, 11), [10])
            self.assertEqual(neighbours((12, 1), reach, 5), [4, 6])

    def test_twelve_by_twelve(self):
        self.assertEqual(neighbours((12, 12), 4, 143), [131, 142])
        self.assertEqual(neighbours((12, 12), 8, 143), [130, 131, 142])

    def test_every_size(self):
        for rows in range(1, 14):
            for columns in range(1, 14):
                floor = [[0] * columns for row in range(rows)]
                for reach in REACHES:
                    told = [neighbours((rows, columns), reach, cell) for cell in cells_of(floor)]
                    self.assertEqual(told, [sorted(walk_next(floor, reach, cell)) for cell in cells_of(floor)])


class RimTest(unittest.TestCase):
    def test_only_the_middle_is_off_the_rim(self):
        self.assertEqual([cell for cell in range(12) if not on_rim((3, 4), cell)], [5, 6])
        self.assertEqual([cell for cell in range(12) if not on_rim((4, 3), cell)], [4, 7])

    def test_narrow_floors_are_all_rim(self):
        for size in ((1, 1), (1, 12), (12, 1), (2, 6), (6, 2)):
            for cell in range(size[0] * size[1]):
                self.assertIs(on_rim(size, cell), True, (size, cell))

    def test_twelve_by_twelve(self):
        inner = [row * 12 + column for row in range(1, 11) for column in range(1, 11)]
        self.assertEqual([cell for cell in range(144) if on_rim((12, 12), cell) is False], inner)


class HeightTest(unittest.TestCase):
    def test_cells_are_numbered_row_by_row(self):
        floor = [[0, 1, 2], [10, 11, TOP]]
        self.assertEqual([height_of(floor, cell) for cell in range(6)], [0, 1, 2, 10, 11, TOP])

    def test_every_floor(self):
        for floor in FLOORS:
            told = [height_of(floor, cell) for cell in cells_of(floor)]
            self.assertEqual(told, [height_at(floor, cell) for cell in cells_of(floor)])


class OrderTest(unittest.TestCase):
    def test_lower_comes_before_whatever_the_numbers(self):
        self.assertIs(comes_before([[5, 3]], 1, 0), True)
        self.assertIs(comes_before([[5, 3]], 0, 1), False)
        self.assertIs(comes_before([[TOP], [TOP - 1]], 1, 0), True)

    def test_alike_heights_go_by_number(self):
        self.assertIs(comes_before([[5], [5]], 0, 1), True)
        self.assertIs(comes_before([[5], [5]], 1, 0), False)

    def test_no_cell_comes_before_itself(self):
        self.assertIs(comes_before([[0, 1]], 0, 0), False)

    def test_in_order(self):
        self.assertEqual(in_order([[1, 3, 0, 2, 1]]), [2, 0, 4, 3, 1])
        self.assertEqual(in_order([[9, 1], [2, 1], [0, 9]]), [4, 1, 3, 2, 0, 5])
        self.assertEqual(in_order([[0]]), [0])
        self.assertEqual(in_order([[4] * 12] * 12), list(range(144)))
        evens = list(range(0, 144, 2))
        self.assertEqual(in_order(COMB), evens + [cell + 1 for cell in evens])

    def test_every_floor(self):
        for floor in FLOORS:
            self.assertEqual(in_order(floor), sorted_cells(floor))

    def test_of_two_cells_one_comes_before_the_other(self):
        for floor in EDGES + chance_floors(4, 20, 4, 4):
            for one in cells_of(floor):
                for other in cells_of(floor):
                    self.assertIs(comes_before(floor, one, other), place(floor, one) < place(floor, other))

    def test_somewhat_beyond_the_bounds(self):
        self.assertEqual(in_order([[TOP + 1, -1, TOP]]), [1, 2, 0])
        self.assertEqual(in_order([]), [])


if __name__ == "__main__":
    unittest.main()
