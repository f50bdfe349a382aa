import unittest

from floodtree.lakes import counts_of, homes_of, lakes_at, tree_of
from tests.helper import (
    COMB, REACHES, TOP, cells_of, first_of, floors_to_walk, height_at, heights_to_ask, lakes_by_walking, large_floors,
    place, sorted_cells, tree_by_walking, walk_at, walk_next, walk_under,
)

ROW = [[1, 3, 0, 2, 1]]
CROSS = [[9, 1, 9], [2, 5, 0], [9, 3, 9]]
BRIEF = [[1, 9, 1], [1, 1, 1]]
LEVEL = [[4] * 12 for row in range(12)]


def lakes_by_tree(floor, tree, home, height):
    """The lake in which a cell of this home lies at a height, by the tree alone."""
    ends = {start: (meet, into) for start, meet, into in tree}
    start = home
    while ends[start][0] is not None and height_at(floor, ends[start][0]) <= height:
        start = ends[start][1]
    return start


class WorkedFloorsTest(unittest.TestCase):
    def test_one_row(self):
        self.assertEqual(tree_of(ROW, 4), [(2, None, None), (0, 1, 2), (4, 3, 2)])
        self.assertEqual(homes_of(ROW, 4), [0, 2, 2, 2, 4])
        self.assertEqual(counts_of(ROW, 4), [(0, 1), (1, 3), (2, 2), (3, 1)])
        self.assertEqual(lakes_at(ROW, 4, 0), [None, None, 2, None, None])
        self.assertEqual(lakes_at(ROW, 4, 1), [0, None, 2, None, 4])
        self.assertEqual(lakes_at(ROW, 4, 2), [0, None, 2, 2, 2])
        self.assertEqual(lakes_at(ROW, 4, 3), [2, 2, 2, 2, 2])

    def test_one_column_is_as_one_row(self):
        column = [[height] for height in ROW[0]]
        for reach in REACHES:
            self.assertEqual(tree_of(column, reach), tree_of(ROW, reach))
            self.assertEqual(homes_of(column, reach), [0, 2, 2, 2, 4])
            self.assertEqual(counts_of(column, reach), counts_of(ROW, reach))
            self.assertEqual(lakes_at(column, reach, 2), [0, None, 2, 2, 2])

    def test_more_than_two_lakes_meet(self):
        self.assertEqual(tree_of(CROSS, 4), [(5, None, None), (1, 4, 5), (3, 4, 5), (7, 4, 5)])
        self.assertEqual(homes_of(CROSS, 4), [5, 1, 5, 3, 5, 5, 5, 7, 5])
        self.assertEqual(counts_of(CROSS, 4), [(0, 1), (1, 2), (2, 3), (3, 4), (5, 1), (9, 1)])
        self.assertEqual(lakes_at(CROSS, 4, 4), [None, 1, None, 3, None, 5, None, 7, None])

    def test_the_same_floor_by_reach_eight(self):
        self.assertEqual(tree_of(CROSS, 8), [(5, None, None)])
        self.assertEqual(homes_of(CROSS, 8), [5] * 9)
        self.assertEqual(counts_of(CROSS, 8), [(0, 1), (1, 1), (2, 1), (3, 1), (5, 1), (9, 1)])

    def test_a_lake_ends_at_the_height_at_which_it_began(self):
        self.assertEqual(tree_of(BRIEF, 4), [(0, None, None), (2, 5, 0)])
        self.assertEqual(homes_of(BRIEF, 4), [0, 0, 2, 0, 0, 0])
        self.assertEqual(counts_of(BRIEF, 4), [(1, 1), (9, 1)])
        self.assertEqual(lakes_at(BRIEF, 4, 1), [0, None, 0, 0, 0, 0])

    def test_the_elder_goes_by_the_order_not_by_numbers(self):
        self.assertEqual(tree_of([[2, 5, 1]], 4), [(2, None, None), (0, 1, 2)])
        self.assertEqual(tree_of([[1, 5, 1]], 4), [(0, None, None), (2, 1, 0)])

    def test_into_is_the_lake_that_lived_on_and_not_the_one_next_to_it(self):
        self.assertEqual(
            tree_of([[0, 3, 2, 4, 1, 5, 1]], 4),
            [(0, None, None), (4, 3, 0), (6, 5, 0), (2, 1, 0)],
        )

    def test_lakes_go_into_lakes_that_end_later(self):
        floor = [[3, 4, 2, 5, 1, 6, 0]]
        self.assertEqual(tree_of(floor, 8), [(6, None, None), (4, 5, 6), (2, 3, 4), (0, 1, 2)])
        self.assertEqual(lakes_at(floor, 8, 4), [2, 2, 2, None, 4, None, 6])
        self.assertEqual(lakes_at(floor, 8, 5), [4, 4, 4, 4, 4, None, 6])

    def test_one_cell(self):
        for reach in REACHES:
            for height in (0, TOP):
                self.assertEqual(tree_of([[height]], reach), [(0, None, None)])
                self.assertEqual(homes_of([[height]], reach), [0])
                self.assertEqual(counts_of([[height]], reach), [(height, 1)])
                self.assertEqual(lakes_at([[height]], reach, height), [0])
        self.assertEqual(lakes_at([[TOP]], 4, TOP - 1), [None])

    def test_below_every_cell_no_cell_lies_in_a_lake(self):
        self.assertEqual(lakes_at([[5, 6, 5], [7, 8, 9]], 4, 4), [None] * 6)

    def test_twelve_by_twelve_all_alike(self):
        for reach in REACHES:
            self.assertEqual(tree_of(LEVEL, reach), [(0, None, None)])
            self.assertEqual(homes_of(LEVEL, reach), [0] * 144)
            self.assertEqual(counts_of(LEVEL, reach), [(4, 1)])
            self.assertEqual(lakes_at(LEVEL, reach, 4), [0] * 144)

    def test_twelve_by_twelve_with_the_least_and_the_greatest_height(self):
        tree = [(0, None, None), (2, 1, 0), (4, 3, 0), (6, 5, 0), (8, 7, 0), (10, 9, 0)]
        for reach in REACHES:
            self.assertEqual(tree_of(COMB, reach), tree)
            self.assertEqual(counts_of(COMB, reach), [(0, 6), (TOP, 1)])
            row = [0, None, 2, None, 4, None, 6, None, 8, None, 10, None]
            self.assertEqual(lakes_at(COMB, reach, TOP - 1), row * 12)
            self.assertEqual(lakes_at(COMB, reach, TOP), [0] * 144)

    def test_somewhat_beyond_the_bounds(self):
        self.assertEqual(tree_of([[TOP + 2, TOP + 3, TOP + 1]], 4), [(2, None, None), (0, 1, 2)])
        self.assertEqual(tree_of([[0] * 13] * 14, 4), [(0, None, None)])
        self.assertEqual(lakes_at([[0, 1]], 4, -1), [None, None])
        self.assertEqual(lakes_at([[0, 1]], 4, TOP + 1), [0, 0])
        self.assertEqual((tree_of([], 4), homes_of([], 4), lakes_at([], 4, 0), counts_of([], 4)), ([], [], [], []))


class WalkedFloorsTest(unittest.TestCase):
    def each_floor(self):
        for floor in floors_to_walk():
            for reach in REACHES:
                yield floor, reach

    def test_the_tree(self):
        for floor, reach in self.each_floor():
            self.assertEqual(tree_of(floor, reach), tree_by_walking(floor, reach), (floor, reach))

    def test_the_homes(self):
        for floor, reach in self.each_floor():
            homes = [first_of(floor, walk_under(floor, reach, cell, cell)) for cell in cells_of(floor)]
            self.assertEqual(homes_of(floor, reach), homes, (floor, reach))

    def test_just_the_cells_without_an_earlier_neighbour_begin_lakes(self):
        for floor, reach in self.each_floor():
            hollows = [
                cell for cell in sorted_cells(floor)
                if all(place(floor, cell) < place(floor, other) for other in walk_next(floor, reach, cell))
            ]
            self.assertEqual([start for start, meet, into in tree_of(floor, reach)], hollows)
            homes = homes_of(floor, reach)
            self.assertEqual([cell for cell in sorted_cells(floor) if homes[cell] == cell], hollows)

    def check_heights(self, floor, reach, heights):
        tree, homes = tree_of(floor, reach), homes_of(floor, reach)
        for height in heights:
            lakes = lakes_by_walking(floor, reach, height)
            self.assertEqual(lakes_at(floor, reach, height), lakes, (floor, reach, height))
            for cell in cells_of(floor):
                if lakes[cell] is not None:
                    self.assertEqual(lakes_by_tree(floor, tree, homes[cell], height), lakes[cell])

    def test_the_lakes_at_every_height(self):
        for floor, reach in self.each_floor():
            self.check_heights(floor, reach, heights_to_ask(floor))

    def test_the_counts(self):
        for floor, reach in self.each_floor():
            heights = sorted({height for row in floor for height in row})
            counts = [(height, len(walk_at(floor, reach, height))) for height in heights]
            self.assertEqual(counts_of(floor, reach), counts, (floor, reach))

    def test_large_floors(self):
        for floor in large_floors():
            for reach in REACHES:
                self.check_heights(floor, reach, heights_to_ask(floor)[::10])
                for height, number in counts_of(floor, reach)[::10]:
                    self.assertEqual(number, len(walk_at(floor, reach, height)))


if __name__ == "__main__":
    unittest.main()
