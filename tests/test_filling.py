import unittest

from floodtree.filling import drains_of, filled, flooded
from tests.helper import (
    CHESS, COMB, EDGES, NESTED, REACHES, TOP, cells_of, flat, floors_to_walk, heights_to_ask, large_floors,
    levels_by_walking, rim_of, walk_from_rim, walk_next,
)

SPILL = [[9, 9, 9, 9, 9], [9, 1, 6, 2, 5], [9, 9, 9, 9, 9]]
LEAK = [[9, 9, 0], [9, 1, 9], [9, 9, 9], [9, 2, 9], [9, 8, 9]]
BOWL = [[TOP] * 12] + [[TOP] + [0] * 10 + [TOP] for row in range(10)] + [[TOP] * 12]


class WorkedFloorsTest(unittest.TestCase):
    def test_a_pool_that_spills_over_a_pool(self):
        for reach in REACHES:
            self.assertEqual(filled(SPILL, reach), [[9, 9, 9, 9, 9], [9, 6, 6, 5, 5], [9, 9, 9, 9, 9]])
            self.assertEqual(drains_of(SPILL, reach), [None] * 6 + [7, 8, 9] + [None] * 6)

    def test_more_rows_than_columns(self):
        upright = [list(column) for column in zip(*SPILL)]
        for reach in REACHES:
            self.assertEqual(filled(upright, reach), [[9, 9, 9], [9, 6, 9], [9, 6, 9], [9, 5, 9], [9, 5, 9]])
            drains = drains_of(upright, reach)
            self.assertEqual([drains[cell] for cell in (4, 7, 10, 13)], [7, 10, 13, None])

    def test_water_leaks_over_corners_by_reach_eight_alone(self):
        self.assertEqual(filled(LEAK, 4), [[9, 9, 0], [9, 9, 9], [9, 9, 9], [9, 8, 9], [9, 8, 9]])
        self.assertEqual(filled(LEAK, 8), [[9, 9, 0], [9, 1, 9], [9, 9, 9], [9, 8, 9], [9, 8, 9]])
        self.assertEqual(drains_of(LEAK, 8)[4], 2)
        self.assertEqual(drains_of(LEAK, 8)[10], 13)

    def test_where_all_is_rim_nothing_is_filled(self):
        for floor in ([[0]], [[TOP]], [[5, 0, TOP, 1]], [[5], [0], [TOP], [1]], [[3, 1, 4], [5, 9, 2]]):
            for reach in REACHES:
                self.assertEqual(filled(floor, reach), floor)
                self.assertEqual(drains_of(floor, reach), [None for cell in cells_of(floor)])

    def test_lakes_within_lakes_are_filled_to_the_rim(self):
        for reach in REACHES:
            self.assertEqual(filled(NESTED, reach), [[9] * 7 for row in range(5)])

    def test_twelve_by_twelve(self):
        for reach in REACHES:
            self.assertEqual(filled(BOWL, reach), [[TOP] * 12 for row in range(12)])
            self.assertEqual(filled(COMB, reach), COMB)
        opened = [list(row) for row in BOWL]
        opened[11][7] = 3
        for reach in REACHES:
            level = [[TOP if cell == TOP else 3 for cell in row] for row in opened]
            self.assertEqual(filled(opened, reach), level)
        inner = [[1 if 0 < row < 11 and 0 < column < 11 else CHESS[row][column] for column in range(12)]
                 for row in range(12)]
        self.assertEqual(filled(CHESS, 4), inner)
        self.assertEqual(filled(CHESS, 8), CHESS)

    def test_flooded(self):
        for reach in REACHES:
            self.assertEqual(flooded(SPILL, reach, 4), [])
            self.assertEqual(flooded(SPILL, reach, 5), [8, 9])
            self.assertEqual(flooded(SPILL, reach, 6), [6, 7, 8, 9])
            self.assertEqual(flooded(SPILL, reach, 8), [6, 7, 8, 9])
            self.assertEqual(flooded(SPILL, reach, 9), list(range(15)))
            self.assertEqual(flooded(BOWL, reach, TOP - 1), [])
            self.assertEqual(flooded(BOWL, reach, TOP), list(range(144)))
        self.assertEqual(flooded(LEAK, 4, 1), [2])
        self.assertEqual(flooded(LEAK, 8, 1), [2, 4])
        self.assertEqual(flooded(LEAK, 8, 0), [2])

    def test_one_cell_flooded(self):
        for reach in REACHES:
            self.assertEqual(flooded([[0]], reach, 0), [0])
            self.assertEqual(flooded([[TOP]], reach, TOP - 1), [])
            self.assertEqual(flooded([[TOP]], reach, TOP), [0])

    def test_somewhat_beyond_the_bounds(self):
        deep = [[TOP + 1] * 3, [TOP + 1, -1, TOP + 1], [TOP + 1] * 3]
        self.assertEqual(filled(deep, 4), [[TOP + 1] * 3 for row in range(3)])
        self.assertEqual(flooded([[0, 1]], 4, -1), [])
        self.assertEqual(flooded(deep, 4, TOP + 1), list(range(9)))
        wide = [[2] * 14 for row in range(13)]
        self.assertEqual(filled(wide, 8), wide)
        self.assertEqual((filled([], 4), drains_of([], 4), flooded([], 4, 0)), ([], [], []))


class WalkedFloorsTest(unittest.TestCase):
    def each_floor(self):
        for floor in floors_to_walk() + [SPILL, LEAK] + large_floors():
            for reach in REACHES:
                yield floor, reach

    def test_the_levels_at_every_height(self):
        for floor, reach in self.each_floor():
            told = filled(floor, reach)
            self.assertEqual([len(row) for row in told], [len(row) for row in floor])
            self.assertEqual(flat(told), levels_by_walking(floor, reach), (floor, reach))

    def test_nowhere_lower_than_the_floor(self):
        for floor, reach in self.each_floor():
            pairs = zip(flat(filled(floor, reach)), flat(floor))
            self.assertTrue(all(level >= height for level, height in pairs), (floor, reach))

    def test_filled_land_is_filled(self):
        for floor, reach in self.each_floor():
            land = filled(floor, reach)
            self.assertEqual(filled(land, reach), land, (floor, reach))

    def test_drains_lead_to_the_rim(self):
        for floor, reach in self.each_floor():
            levels, drains, rim = flat(filled(floor, reach)), drains_of(floor, reach), rim_of(floor)
            self.assertEqual({cell for cell in cells_of(floor) if drains[cell] is None}, rim, (floor, reach))
            self.assertEqual(len(drains), len(levels))
            for cell in cells_of(floor):
                way = [cell]
                while drains[way[-1]] is not None:
                    drain = drains[way[-1]]
                    self.assertIn(drain, walk_next(floor, reach, way[-1]), (floor, reach))
                    self.assertLessEqual(levels[drain], levels[way[-1]], (floor, reach))
                    self.assertNotIn(drain, way, (floor, reach))
                    way.append(drain)
                self.assertIn(way[-1], rim)

    def test_the_same_drains_each_time(self):
        for floor in EDGES + large_floors():
            for reach in REACHES:
                told = drains_of(floor, reach)
                drains_of(SPILL, reach)
                self.assertEqual(drains_of([list(row) for row in floor], reach), told)

    def test_flooded_at_every_height(self):
        for floor, reach in self.each_floor():
            heights = heights_to_ask(floor) + [0, TOP]
            for height in heights if len(heights) < 50 else heights[::20] + [0, TOP]:
                told = flooded(floor, reach, height)
                self.assertEqual(told, sorted(walk_from_rim(floor, reach, height)), (floor, reach, height))

    def test_water_reaches_just_the_cells_filled_no_higher(self):
        for floor, reach in self.each_floor():
            levels = flat(filled(floor, reach))
            for height in (heights_to_ask(floor) + [0, TOP])[:60]:
                not_higher = [cell for cell in cells_of(floor) if levels[cell] <= height]
                self.assertEqual(flooded(floor, reach, height), not_higher, (floor, reach, height))


if __name__ == "__main__":
    unittest.main()
