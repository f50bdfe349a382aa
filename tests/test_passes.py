import unittest

from floodtree.lakes import tree_of
from floodtree.passes import pass_between
from tests.helper import (
    COMB, EDGES, NESTED, REACHES, TOP, all_small_floors, cells_of, chance_floors, first_of, large_floors, last_of,
    passes_from, place, walk_ahead_of, walk_next, walk_under,
)

ROW = [[1, 3, 0, 2, 1]]
CROSS = [[9, 1, 9], [2, 5, 0], [9, 3, 9]]
LEVEL = [[4] * 12 for row in range(12)]
FLOORS = EDGES + chance_floors(11, 20, 5, 5) + all_small_floors()[::17]


def ways_from(floor, reach, way, other):
    """All ways that go on from this one to the other cell, no cell twice."""
    if way[-1] == other:
        yield way
        return
    for cell in sorted(walk_next(floor, reach, way[-1]) - set(way)):
        yield from ways_from(floor, reach, way + [cell], other)


class WorkedFloorsTest(unittest.TestCase):
    def test_one_row(self):
        self.assertEqual(pass_between(ROW, 4, 0, 2), (1, [0, 1, 2], [0]))
        self.assertEqual(pass_between(ROW, 4, 2, 0), (1, [2, 1, 0], [2, 3, 4]))
        self.assertEqual(pass_between(ROW, 4, 2, 4), (3, [2, 3, 4], [2]))
        self.assertEqual(pass_between(ROW, 4, 4, 0), (1, [4, 3, 2, 1, 0], [2, 3, 4]))

    def test_one_column(self):
        column = [[height] for height in ROW[0]]
        for reach in REACHES:
            self.assertEqual(pass_between(column, reach, 4, 0), (1, [4, 3, 2, 1, 0], [2, 3, 4]))

    def test_an_end_is_the_pass(self):
        self.assertEqual(pass_between(ROW, 4, 1, 2), (1, [1, 2], []))
        self.assertEqual(pass_between(ROW, 4, 2, 1), (1, [2, 1], [2, 3, 4]))
        self.assertEqual(pass_between([[0, TOP]], 8, 1, 0), (1, [1, 0], []))
        self.assertEqual(pass_between([[0, TOP]], 8, 0, 1), (1, [0, 1], [0]))

    def test_a_cell_and_itself(self):
        for floor in EDGES + [COMB]:
            for reach in REACHES:
                for cell in cells_of(floor):
                    self.assertEqual(pass_between(floor, reach, cell, cell), (cell, [cell], []))

    def test_the_lower_way_round_not_the_short_one(self):
        wall = [[0, 8, 0], [1, 9, 1], [2, 3, 2]]
        self.assertEqual(pass_between(wall, 4, 0, 2), (7, [0, 3, 6, 7, 8, 5, 2], [0, 3, 6]))
        self.assertEqual(pass_between(wall, 4, 2, 0), (7, [2, 5, 8, 7, 6, 3, 0], [2, 5, 8]))

    def test_corners_by_reach_eight_alone(self):
        self.assertEqual(pass_between(CROSS, 4, 1, 5)[0], 4)
        self.assertEqual(pass_between(CROSS, 8, 1, 5), (1, [1, 5], []))
        self.assertEqual(pass_between(CROSS, 8, 5, 1), (1, [5, 1], [5]))

    def test_alike_heights_go_by_number(self):
        level = [[7, 7, 7], [7, 7, 7]]
        cell, way, inside = pass_between(level, 4, 3, 5)
        self.assertEqual((cell, inside), (5, [0, 1, 2, 3, 4]))
        self.assertEqual(pass_between(level, 4, 0, 3), (3, [0, 3], [0, 1, 2]))
        self.assertEqual(pass_between(level, 4, 3, 0), (3, [3, 0], []))
        self.assertEqual(pass_between([[1, 9, 1], [1, 1, 1]], 4, 2, 0), (5, [2, 5, 4, 3, 0], [2]))

    def test_lakes_within_lakes(self):
        cell, way, inside = pass_between(NESTED, 4, 8, 12)
        self.assertEqual((cell, inside), (11, [8, 9, 10, 15, 17, 22, 23, 24]))
        cell, way, inside = pass_between(NESTED, 4, 12, 8)
        self.assertEqual((cell, inside), (11, [12, 19, 26]))
        self.assertEqual(pass_between(NESTED, 4, 8, 10), (9, [8, 9, 10], [8]))
        cell, way, inside = pass_between(NESTED, 4, 24, 0)
        self.assertEqual((cell, inside), (1, [8, 9, 10, 11, 12, 15, 17, 19, 22, 23, 24, 25, 26]))
        self.assertEqual(pass_between(NESTED, 4, 0, 24)[2], [0])

    def test_twelve_by_twelve(self):
        self.assertEqual(pass_between(COMB, 4, 0, 142)[0], 9)
        self.assertEqual(pass_between(COMB, 8, 142, 0)[2], list(range(10, 144, 12)))
        self.assertEqual(pass_between(LEVEL, 4, 0, 143)[0], 143)
        self.assertEqual(pass_between(LEVEL, 4, 0, 143)[2], list(range(143)))
        self.assertEqual(pass_between(LEVEL, 4, 143, 0)[2], [])

    def test_somewhat_beyond_the_bounds(self):
        self.assertEqual(pass_between([[-1, TOP + 1, -2]], 4, 0, 2), (1, [0, 1, 2], [0]))
        wide = [[0] * 14 for row in range(13)]
        self.assertEqual(pass_between(wide, 4, 181, 181), (181, [181], []))
        self.assertEqual(pass_between(wide, 4, 0, 181)[0], 181)


class WalkedFloorsTest(unittest.TestCase):
    def each_floor(self, floors=FLOORS):
        for floor in floors:
            for reach in REACHES:
                yield floor, reach

    def check_way(self, floor, reach, one, other, told):
        cell, way, inside = told
        asked = (floor, reach, one, other)
        self.assertEqual((way[0], way[-1]), (one, other), asked)
        for here, beyond in zip(way, way[1:]):
            self.assertIn(beyond, walk_next(floor, reach, here), asked)
        self.assertEqual(len(set(way)), len(way), asked)
        self.assertEqual(last_of(floor, way), cell, asked)

    def check_inside(self, floor, reach, one, other, told):
        cell, way, inside = told
        asked = (floor, reach, one, other)
        self.assertEqual(inside, sorted(walk_ahead_of(floor, reach, one, cell)), asked)
        self.assertEqual(inside == [], cell == one, asked)
        if inside:
            self.assertIn(one, inside)
            self.assertNotIn(other, inside)
        around = {near for here in inside for near in walk_next(floor, reach, here)} - set(inside)
        self.assertTrue(all(place(floor, near) >= place(floor, cell) for near in around), asked)

    def test_the_pass_by_walking_the_cells_in_their_order(self):
        for floor, reach in self.each_floor():
            for one in cells_of(floor):
                passes = passes_from(floor, reach, one)
                for other in cells_of(floor):
                    told = pass_between(floor, reach, one, other)[0]
                    self.assertEqual(told, passes[other], (floor, reach, one, other))

    def test_no_way_at_all_has_an_earlier_latest_cell(self):
        for floor, reach in self.each_floor(all_small_floors()[::60]):
            for one in cells_of(floor):
                for other in cells_of(floor):
                    latest = [last_of(floor, way) for way in ways_from(floor, reach, [one], other)]
                    self.assertEqual(pass_between(floor, reach, one, other)[0], first_of(floor, latest))

    def check_pair(self, floor, reach, one, other):
        there, back = pass_between(floor, reach, one, other), pass_between(floor, reach, other, one)
        self.check_way(floor, reach, one, other, there)
        self.check_way(floor, reach, other, one, back)
        self.check_inside(floor, reach, one, other, there)
        self.check_inside(floor, reach, other, one, back)
        self.assertEqual(there[0], back[0], (floor, reach, one, other))

    def test_the_way_and_the_inside_from_both_ends(self):
        for floor, reach in self.each_floor():
            for one in cells_of(floor):
                for other in range(one + 1):
                    self.check_pair(floor, reach, one, other)

    def test_the_same_asked_twice(self):
        for floor, reach in self.each_floor(EDGES + large_floors()):
            one, other = 0, len(floor) * len(floor[0]) - 1
            told = pass_between(floor, reach, one, other)
            pass_between(floor, reach, other, one)
            pass_between(NESTED, reach, 34, 0)
            self.assertEqual(pass_between([list(row) for row in floor], reach, one, other), told)

    def test_the_pass_from_a_start_to_its_into_is_its_meet(self):
        for floor, reach in self.each_floor(FLOORS + large_floors()):
            for start, meet, into in tree_of(floor, reach)[1:]:
                self.assertEqual(pass_between(floor, reach, start, into)[0], meet, (floor, reach, start))
                self.assertEqual(pass_between(floor, reach, into, start)[0], meet, (floor, reach, start))

    def test_large_floors(self):
        for floor, reach in self.each_floor(large_floors()):
            for one, other in ((0, 143), (11, 132), (66, 5), (13, 14), (77, 65)):
                self.check_pair(floor, reach, one, other)
                cell = pass_between(floor, reach, one, other)[0]
                self.assertIn(other, walk_under(floor, reach, one, cell))
                self.assertNotIn(other, walk_ahead_of(floor, reach, one, cell))


if __name__ == "__main__":
    unittest.main()
