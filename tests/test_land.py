import copy
import unittest

from floodtree.basins import basins_of, lines_of
from floodtree.errors import NoCell
from floodtree.lakes import counts_of, homes_of
from floodtree.land import Land
from floodtree.lives import lives_of
from floodtree.peaks import peaks_of
from tests.helper import (
    COMB, EDGES, NESTED, REACHES, TOP, cells_of, chance_changes, chance_floors, flat, height_at, heights_in_bounds,
    lakes_by_walking, large_floors, levels_by_walking, refused, some, tree_by_walking, walk_at,
    with_height,
)

ROW = [[1, 3, 0, 2, 1]]
CROSS = [[9, 1, 9], [2, 5, 0], [9, 3, 9]]
POOL = [[9, 9, 9, 9], [9, 1, 6, 5], [9, 9, 9, 9]]
FLOORS = EDGES + chance_floors(51, 14, 5, 5)


def answers_of(land, many=400):
    """All that a Land tells, with lakes and numbers at about so many heights, or all."""
    floor = land.floor_now()
    heights = some(heights_in_bounds(floor), many)
    lakes = [[land.lake(cell, height) for cell in cells_of(floor)] for height in heights]
    numbers = [land.many_at(height) for height in heights]
    return (floor, land.lakes(), land.levels(), heights, lakes, numbers)


class WorkedLandTest(unittest.TestCase):
    def test_one_row(self):
        for reach in REACHES:
            land = Land(ROW, reach)
            self.assertEqual(land.floor_now(), ROW)
            self.assertEqual(land.lakes(), [(2, None, None), (0, 1, 2), (4, 3, 2)])
            self.assertEqual([land.lake(cell, 1) for cell in range(5)], [0, None, 2, None, 4])
            self.assertEqual([land.lake(cell, 2) for cell in range(5)], [0, None, 2, 2, 2])
            self.assertEqual([land.many_at(height) for height in (0, 1, 2, 3, TOP)], [1, 3, 2, 1, 1])
            self.assertEqual(land.levels(), ROW)

    def test_one_column(self):
        column = [[height] for height in ROW[0]]
        land = Land(column, 8)
        self.assertEqual((land.floor_now(), land.levels()), (column, column))
        self.assertEqual(land.lakes(), [(2, None, None), (0, 1, 2), (4, 3, 2)])

    def test_a_change_in_one_row(self):
        land = Land(ROW, 4)
        self.assertIsNone(land.change(1, 0))
        self.assertEqual(land.floor_now(), [[1, 0, 0, 2, 1]])
        self.assertEqual(land.lakes(), [(1, None, None), (4, 3, 1)])
        self.assertEqual([land.lake(cell, 0) for cell in range(5)], [None, 1, 1, None, None])
        self.assertEqual([land.many_at(height) for height in (0, 1, 2)], [1, 2, 1])

    def test_a_change_in_filled_land(self):
        for reach in REACHES:
            land = Land(POOL, reach)
            self.assertEqual(land.levels(), [[9, 9, 9, 9], [9, 6, 6, 5], [9, 9, 9, 9]])
            land.change(7, 8)
            self.assertEqual(land.levels(), [[9, 9, 9, 9], [9, 8, 8, 8], [9, 9, 9, 9]])
            land.change(9, 2)
            self.assertEqual(land.levels(), [[9, 9, 9, 9], [9, 2, 6, 8], [9, 2, 9, 9]])

    def test_the_reach_left_out_is_four(self):
        for floor in (CROSS, NESTED, [[0, 5], [5, 1]]):
            self.assertEqual(answers_of(Land(floor)), answers_of(Land(floor, 4)))
            self.assertNotEqual(answers_of(Land(floor)), answers_of(Land(floor, 8)))
        self.assertEqual(Land(CROSS).lakes(), [(5, None, None), (1, 4, 5), (3, 4, 5), (7, 4, 5)])
        self.assertEqual(Land(CROSS, reach=8).lakes(), [(5, None, None)])
        self.assertEqual(Land(floor=CROSS, reach=8).many_at(3), 1)

    def test_the_reach_stays_behind_changes(self):
        land = Land([[9, 9], [9, 9]], 8)
        land.change(0, 1)
        land.change(3, 1)
        self.assertEqual((land.lakes(), land.many_at(1)), ([(0, None, None)], 1))
        other = Land([[9, 9], [9, 9]])
        other.change(0, 1)
        other.change(3, 1)
        self.assertEqual((other.lakes(), other.many_at(1)), ([(0, None, None), (3, 1, 0)], 2))

    def test_one_cell(self):
        land = Land([[TOP]])
        self.assertEqual((land.lakes(), land.levels()), ([(0, None, None)], [[TOP]]))
        self.assertEqual((land.many_at(TOP - 1), land.lake(0, TOP - 1)), (0, None))
        self.assertIsNone(land.change(0, 0))
        self.assertEqual((land.floor_now(), land.many_at(0), land.lake(0, 0)), ([[0]], 1, 0))

    def test_no_cell_is_so_low(self):
        land = Land([[5, 6, 5], [7, 8, 9]])
        self.assertEqual([land.many_at(height) for height in (0, 4, 5)], [0, 0, 2])
        self.assertEqual([land.lake(cell, 4) for cell in range(6)], [None] * 6)

    def test_alike_heights_go_by_number(self):
        land = Land([[7, 7, 7, 7]])
        land.change(1, 8)
        self.assertEqual(land.lakes(), [(0, None, None), (2, 1, 0)])
        land.change(1, 7)
        self.assertEqual(land.lakes(), [(0, None, None)])

    def test_twelve_by_twelve(self):
        land = Land(COMB)
        self.assertEqual((land.many_at(0), land.many_at(TOP - 1), land.many_at(TOP)), (6, 6, 1))
        land.change(1, 0)
        self.assertEqual((land.many_at(0), land.lake(142, 0)), (5, 10))
        self.assertEqual(land.lakes(), [(0, None, None), (4, 3, 0), (6, 5, 0), (8, 7, 0), (10, 9, 0)])
        land.change(143, 1)
        self.assertEqual((land.floor_now()[11][11], land.lake(143, 1), land.lake(143, 0)), (1, 10, None))

    def test_each_cell_is_changed_by_its_number(self):
        for rows, columns in ((1, 12), (12, 1), (2, 3), (3, 2), (12, 12)):
            floor = [[4] * columns for row in range(rows)]
            for cell in cells_of(floor):
                land = Land(floor)
                land.change(cell, 9)
                self.assertEqual(flat(land.floor_now()), [4] * cell + [9] + [4] * (rows * columns - cell - 1))


class ChangedLandTest(unittest.TestCase):
    def check_by_walking(self, land, floor, reach):
        self.assertEqual(land.floor_now(), floor)
        self.assertEqual(land.lakes(), tree_by_walking(floor, reach), (floor, reach))
        self.assertEqual(flat(land.levels()), levels_by_walking(floor, reach), (floor, reach))
        for height in heights_in_bounds(floor):
            self.assertEqual(land.many_at(height), len(walk_at(floor, reach, height)), (floor, reach, height))
            lakes = lakes_by_walking(floor, reach, height)
            self.assertEqual([land.lake(cell, height) for cell in cells_of(floor)], lakes, (floor, reach, height))

    def test_rows_of_changes_walked_cell_by_cell(self):
        for floor in FLOORS:
            for reach in REACHES:
                land, now = Land(floor, reach), floor
                self.check_by_walking(land, now, reach)
                for cell, height in chance_changes(52, floor, 4):
                    self.assertIsNone(land.change(cell, height))
                    now = with_height(now, cell, height)
                    self.check_by_walking(land, now, reach)

    def test_rows_of_changes_as_if_the_floor_had_been_so_from_the_beginning(self):
        for floor in FLOORS:
            for reach in REACHES:
                land, now = Land(floor, reach), floor
                for cell, height in chance_changes(53, floor, 8):
                    self.assertIsNone(land.change(cell, height))
                    now = with_height(now, cell, height)
                    self.assertEqual(answers_of(land), answers_of(Land(now, reach)), (floor, reach))

    def test_rows_of_changes_with_nothing_asked_between(self):
        for floor in FLOORS:
            for reach in REACHES:
                land, now = Land(floor, reach), floor
                for cell, height in chance_changes(54, floor, 20):
                    land.change(cell, height)
                    now = with_height(now, cell, height)
                self.assertEqual(answers_of(land), answers_of(Land(now, reach)))

    def test_large_floors(self):
        for floor in large_floors():
            for reach in REACHES:
                land, now = Land(floor, reach), floor
                for cell, height in chance_changes(55, floor, 3):
                    land.change(cell, height)
                    now = with_height(now, cell, height)
                    new = Land(now, reach)
                    self.assertEqual(land.floor_now(), now)
                    self.assertEqual((land.lakes(), land.levels()), (new.lakes(), new.levels()))
                    for asked in some(heights_in_bounds(now), 4):
                        self.assertEqual(land.many_at(asked), new.many_at(asked))
                        lakes = lakes_by_walking(now, reach, asked)
                        for one in cells_of(now)[::11] + [cell]:
                            self.assertEqual(land.lake(one, asked), lakes[one])
                            self.assertEqual(new.lake(one, asked), lakes[one])

    def test_a_change_to_the_same_height(self):
        for floor in FLOORS:
            land = Land(floor)
            ahead = answers_of(land)
            for cell in cells_of(floor)[::3]:
                self.assertIsNone(land.change(cell, height_at(floor, cell)))
                self.assertEqual(answers_of(land), ahead)

    def test_a_change_there_and_back(self):
        for floor in FLOORS:
            for reach in REACHES:
                land = Land(floor, reach)
                ahead = answers_of(land)
                for cell, height in chance_changes(56, floor, 3):
                    land.change(cell, height)
                    self.assertEqual(land.floor_now(), with_height(floor, cell, height))
                    land.change(cell, height_at(floor, cell))
                    self.assertEqual(answers_of(land), ahead, (floor, reach))

    def test_the_other_stages_tell_of_the_floor_as_it_is_then(self):
        for floor in (ROW, CROSS, NESTED):
            land, now = Land(floor, 8), floor
            for cell, height in chance_changes(57, floor, 6):
                land.change(cell, height)
                now = with_height(now, cell, height)
                for told in (homes_of, counts_of, basins_of, lines_of, lives_of, peaks_of):
                    self.assertEqual(told(land.floor_now(), 8), told(now, 8))


class RefusedTest(unittest.TestCase):
    def test_a_number_that_is_no_cell(self):
        for floor in ([[3]], ROW, [[1], [3], [0]], CROSS, POOL, [[3, 1], [4, 1], [5, 9], [2, 6]], COMB):
            many = len(cells_of(floor))
            land = Land(floor)
            ahead = answers_of(land, 4)
            for cell in (-1, -2, -many, -many - 1, -TOP, many, many + 1, many + len(floor[0]), 144, 1000, TOP):
                for height in (0, 2, TOP):
                    refused(self, NoCell, land.change, cell, height)
                self.assertEqual(land.floor_now(), floor)
            self.assertEqual(answers_of(land, 4), ahead)

    def test_the_first_and_the_last_cell_are_cells(self):
        for floor in ([[3]], ROW, [[1], [3], [0]], CROSS, POOL, COMB):
            land = Land(floor)
            last = len(cells_of(floor)) - 1
            self.assertIsNone(land.change(0, 5))
            self.assertIsNone(land.change(last, 6))
            self.assertEqual(land.floor_now(), with_height(with_height(floor, 0, 5), last, 6))

    def test_refused_between_changes(self):
        land = Land(CROSS)
        land.change(4, 0)
        refused(self, NoCell, land.change, 9, 7)
        land.change(0, 0)
        refused(self, NoCell, land.change, -1, 7)
        self.assertEqual(answers_of(land), answers_of(Land([[0, 1, 9], [2, 0, 0], [9, 3, 9]])))


class KeptTest(unittest.TestCase):
    def test_the_floor_handed_in_stays(self):
        for floor in FLOORS:
            handed = copy.deepcopy(floor)
            land = Land(handed)
            for cell, height in chance_changes(58, floor, 5):
                land.change(cell, height)
                answers_of(land)
            self.assertEqual(handed, floor)

    def test_the_floor_is_changed_behind_the_making(self):
        for floor in FLOORS:
            handed = copy.deepcopy(floor)
            land = Land(handed)
            for row in handed:
                row[0] = 77
            handed[0].append(5)
            handed.append([1])
            self.assertEqual(answers_of(land), answers_of(Land(floor)))

    def test_what_was_told_is_changed(self):
        for floor in FLOORS:
            land = Land(floor, 8)
            ahead = copy.deepcopy(answers_of(land))
            for told in (land.floor_now(), land.levels()):
                for row in told:
                    row[0] = 77
                    row.append(78)
                told.append([1])
            land.lakes().clear()
            self.assertEqual(answers_of(land), ahead)

    def test_what_was_told_ahead_of_a_change_stays(self):
        for floor in FLOORS:
            land = Land(floor)
            told = (land.floor_now(), land.lakes(), land.levels())
            kept = copy.deepcopy(told)
            for cell in cells_of(floor):
                land.change(cell, 77 - cell % 5)
                answers_of(land, 2)
            self.assertEqual(told, kept)

    def test_two_answers_share_no_list(self):
        land = Land(CROSS)
        for tell in (land.floor_now, land.levels, land.lakes):
            one, other = tell(), tell()
            kept = copy.deepcopy(other)
            one[0] = 77
            self.assertEqual(other, kept)
        one, other = land.floor_now(), land.floor_now()
        one[0][0] = 77
        self.assertEqual(other, CROSS)

    def test_two_lands_of_one_floor(self):
        for floor in FLOORS:
            handed = copy.deepcopy(floor)
            one, other = Land(handed), Land(handed)
            ahead = answers_of(other)
            for cell in cells_of(floor):
                one.change(cell, 77 - cell % 5)
            self.assertEqual(answers_of(other), ahead)
            third = Land(one.floor_now())
            one.change(0, 3)
            self.assertEqual(third.floor_now()[0][0], 77)

    def test_a_floor_in_which_all_rows_are_one_list(self):
        land = Land([[4, 4, 4]] * 3)
        land.change(4, 1)
        self.assertEqual(land.floor_now(), [[4, 4, 4], [4, 1, 4], [4, 4, 4]])

    def test_kinds(self):
        land = Land(CROSS)
        self.assertEqual({type(part) for part in (land.floor_now(), land.levels(), land.lakes())}, {list})
        self.assertEqual({type(row) for row in land.floor_now() + land.levels()}, {list})
        self.assertEqual({type(height) for height in flat(land.floor_now()) + flat(land.levels())}, {int})
        self.assertEqual({(type(lake), len(lake)) for lake in land.lakes()}, {(tuple, 3)})
        self.assertEqual((type(land.many_at(3)), type(land.many_at(0)), type(land.lake(5, 3))), (int, int, int))


if __name__ == "__main__":
    unittest.main()
