import random
import unittest

from floodtree.basins import basins_of, falls_of, lines_of, tree_by_lines
from floodtree.lakes import tree_of
from tests.helper import (
    COMB, NESTED, REACHES, TOP, cells_of, chance_floors, first_of, floors_to_walk, large_floors, last_of, place,
    walk_next,
)

ROW = [[1, 3, 0, 2, 1]]
CROSS = [[9, 1, 9], [2, 5, 0], [9, 3, 9]]
# The cell at which three lakes meet falls to the youngest of them.
THREE = [[9, 9, 3, 9, 9], [1, 4, 6, 5, 2], [9, 9, 9, 9, 9]]
FLOORS = floors_to_walk() + [THREE] + large_floors() + chance_floors(21, 10, 12, 12)


def falls_by_walking(floor, reach):
    falls = []
    for cell in cells_of(floor):
        earlier = [near for near in walk_next(floor, reach, cell) if place(floor, near) < place(floor, cell)]
        falls.append(first_of(floor, earlier) if earlier else None)
    return falls


def basins_by_walking(floor, reach):
    falls = falls_by_walking(floor, reach)
    basins = []
    for cell in cells_of(floor):
        while falls[cell] is not None:
            cell = falls[cell]
        basins.append(cell)
    return basins


def lines_by_walking(floor, reach):
    basins = basins_by_walking(floor, reach)
    later = {}
    for cell in cells_of(floor):
        for near in walk_next(floor, reach, cell):
            if basins[cell] < basins[near]:
                later.setdefault((basins[cell], basins[near]), []).append(last_of(floor, [cell, near]))
    return sorted((one, other, first_of(floor, cells)) for (one, other), cells in later.items())


def bottoms_of(floor, reach):
    return [cell for cell, fall in enumerate(falls_of(floor, reach)) if fall is None]


class WorkedFloorsTest(unittest.TestCase):
    def test_one_row(self):
        for reach in REACHES:
            self.assertEqual(falls_of(ROW, reach), [None, 2, None, 2, None])
            self.assertEqual(basins_of(ROW, reach), [0, 2, 2, 2, 4])
            self.assertEqual(lines_of(ROW, reach), [(0, 2, 1), (2, 4, 3)])
            self.assertEqual(tree_by_lines(ROW, [0, 2, 4], [(0, 2, 1), (2, 4, 3)]), tree_of(ROW, reach))

    def test_one_column(self):
        column = [[height] for height in ROW[0]]
        for reach in REACHES:
            self.assertEqual(falls_of(column, reach), [None, 2, None, 2, None])
            self.assertEqual(basins_of(column, reach), [0, 2, 2, 2, 4])
            self.assertEqual(lines_of(column, reach), [(0, 2, 1), (2, 4, 3)])

    def test_a_square_floor(self):
        self.assertEqual(falls_of(CROSS, 4), [1, None, 5, None, 5, None, 3, None, 5])
        self.assertEqual(basins_of(CROSS, 4), [1, 1, 5, 3, 5, 5, 3, 7, 5])
        self.assertEqual(lines_of(CROSS, 4), [(1, 3, 0), (1, 5, 4), (3, 5, 4), (3, 7, 6), (5, 7, 4)])

    def test_the_same_floor_by_reach_eight(self):
        self.assertEqual(falls_of(CROSS, 8), [1, 5, 5, 1, 5, None, 3, 5, 5])
        self.assertEqual(basins_of(CROSS, 8), [5] * 9)
        self.assertEqual(lines_of(CROSS, 8), [])
        self.assertEqual(tree_by_lines(CROSS, [5], []), [(5, None, None)])

    def test_a_fall_leads_to_the_earliest_neighbour_not_to_any_earlier_one(self):
        self.assertEqual(falls_of([[2, 3, 1]], 4), [None, 2, None])
        self.assertEqual(falls_of([[1, 3, 1]], 4), [None, 0, None])
        self.assertEqual(falls_of([[1, 1, 0]], 4), [None, 2, None])

    def test_falls_lead_on_over_several_cells(self):
        self.assertEqual(falls_of([[4, 3, 2, 1, 9, 0]], 4), [1, 2, 3, None, 5, None])
        self.assertEqual(basins_of([[4, 3, 2, 1, 9, 0]], 4), [3, 3, 3, 3, 5, 5])

    def test_alike_heights_go_by_number(self):
        level = [[7, 7, 7], [7, 7, 7]]
        self.assertEqual(falls_of(level, 4), [None, 0, 1, 0, 1, 2])
        self.assertEqual(falls_of(level, 8), [None, 0, 1, 0, 0, 1])
        brief = [[1, 9, 1], [1, 1, 1]]
        self.assertEqual(falls_of(brief, 4), [None, 0, None, 0, 3, 2])
        self.assertEqual(basins_of(brief, 4), [0, 0, 2, 0, 0, 2])
        self.assertEqual(lines_of(brief, 4), [(0, 2, 5)])

    def test_one_cell(self):
        for reach in REACHES:
            for height in (0, TOP):
                self.assertEqual(falls_of([[height]], reach), [None])
                self.assertEqual(basins_of([[height]], reach), [0])
                self.assertEqual(lines_of([[height]], reach), [])
                self.assertEqual(tree_by_lines([[height]], [0], []), [(0, None, None)])

    def test_the_lesser_number_first_though_it_is_the_later_bottom(self):
        self.assertEqual(lines_of([[5, 9, 1, 8, 3, 7, 0]], 4), [(0, 2, 1), (2, 4, 3), (4, 6, 5)])

    def test_twelve_by_twelve(self):
        self.assertEqual(lines_of(COMB, 4), [(0, 2, 1), (2, 4, 3), (4, 6, 5), (6, 8, 7), (8, 10, 9)])
        self.assertEqual(bottoms_of(COMB, 8), [0, 2, 4, 6, 8, 10])

    def test_all_lines_of_a_cell_join_at_once(self):
        bottoms, lines = bottoms_of(THREE, 4), lines_of(THREE, 4)
        self.assertEqual([line for line in lines if line[2] == 7], [(2, 5, 7), (2, 9, 7)])
        for one in (lines, lines[::-1]):
            self.assertEqual(tree_by_lines(THREE, bottoms, one), [(5, None, None), (9, 7, 5), (2, 7, 5)])

    def test_the_tree_goes_by_the_order_not_by_the_bottoms_handed_in(self):
        lines = [(4, 6, 5), (0, 2, 1), (2, 4, 3)]
        tree = [(6, None, None), (4, 5, 6), (2, 3, 4), (0, 1, 2)]
        for bottoms in ([0, 2, 4, 6], [6, 4, 2, 0], [4, 0, 6, 2]):
            self.assertEqual(tree_by_lines([[3, 4, 2, 5, 1, 6, 0]], bottoms, lines), tree)

    def test_somewhat_beyond_the_bounds(self):
        far = [[TOP + 2, TOP + 3, -1]]
        self.assertEqual(falls_of(far, 4), [None, 2, None])
        self.assertEqual(lines_of(far, 4), [(0, 2, 1)])
        self.assertEqual(tree_by_lines(far, [0, 2], [(0, 2, 1)]), [(2, None, None), (0, 1, 2)])
        self.assertEqual(basins_of([[0] * 14 for row in range(13)], 4), [0] * 182)
        told = (falls_of([], 4), basins_of([], 4), lines_of([], 4), tree_by_lines([], [], []))
        self.assertEqual(told, ([], [], [], []))


class WalkedFloorsTest(unittest.TestCase):
    def each_floor(self):
        for floor in FLOORS:
            for reach in REACHES:
                yield floor, reach

    def test_the_falls(self):
        for floor, reach in self.each_floor():
            self.assertEqual(falls_of(floor, reach), falls_by_walking(floor, reach), (floor, reach))

    def test_the_basins(self):
        for floor, reach in self.each_floor():
            self.assertEqual(basins_of(floor, reach), basins_by_walking(floor, reach), (floor, reach))

    def test_the_lines(self):
        for floor, reach in self.each_floor():
            self.assertEqual(lines_of(floor, reach), lines_by_walking(floor, reach), (floor, reach))

    def test_bottoms_are_the_starts_of_lakes(self):
        for floor, reach in self.each_floor():
            starts = sorted(start for start, meet, into in tree_of(floor, reach))
            self.assertEqual(bottoms_of(floor, reach), starts, (floor, reach))

    def test_the_tree_from_bottoms_and_lines_in_any_order(self):
        chance = random.Random(22)
        for floor, reach in self.each_floor():
            tree, bottoms, lines = tree_of(floor, reach), bottoms_of(floor, reach), lines_of(floor, reach)
            self.assertEqual(tree_by_lines(floor, bottoms, lines), tree, (floor, reach))
            self.assertEqual(tree_by_lines(floor, bottoms[::-1], lines[::-1]), tree, (floor, reach))
            chance.shuffle(bottoms)
            chance.shuffle(lines)
            self.assertEqual(tree_by_lines(floor, bottoms, lines), tree, (floor, reach))

    def test_lakes_within_lakes(self):
        for reach in REACHES:
            bottoms = bottoms_of(NESTED, reach)
            self.assertEqual(tree_by_lines(NESTED, bottoms, lines_of(NESTED, reach)), tree_of(NESTED, reach))
        self.assertEqual(
            tree_by_lines(NESTED, bottoms_of(NESTED, 4), lines_of(NESTED, 4)),
            [(24, None, None), (8, 17, 24), (10, 9, 8), (22, 15, 8), (12, 11, 24), (26, 19, 12), (0, 1, 24)],
        )


if __name__ == "__main__":
    unittest.main()
