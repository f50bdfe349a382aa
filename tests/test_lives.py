import unittest

from floodtree.lakes import tree_of
from floodtree.lives import lives_of, put_away
from floodtree.passes import pass_between
from tests.helper import (
    COMB, NESTED, REACHES, TOP, all_small_floors, cells_of, chance_floors, flat, floors_to_walk, height_at,
    large_floors, walk_ahead_of,
)

ROW = [[1, 3, 0, 2, 1]]
CROSS = [[9, 1, 9], [2, 5, 0], [9, 3, 9]]
BRIEF = [[1, 9, 1], [1, 1, 1]]
# Each lake lies within the next one.
CHAIN = [[3, 4, 2, 5, 1, 6, 0]]
FLOORS = floors_to_walk() + large_floors()


def lives_by_tree(floor, reach):
    lives = {}
    for start, meet, into in tree_of(floor, reach):
        lives[start] = None if meet is None else height_at(floor, meet) - height_at(floor, start)
    return lives


def leasts_to_ask(floor, reach):
    lives = {life for life in lives_by_tree(floor, reach).values() if life is not None}
    leasts = sorted({0, 1, TOP} | lives | {life + 1 for life in lives if life < TOP})
    return leasts if len(leasts) < 12 else leasts[:4] + leasts[4:-4:9] + leasts[-4:]


def put_away_by_walking(floor, reach, least):
    lives = lives_by_tree(floor, reach)
    heights = {cell: [height_at(floor, cell)] for cell in cells_of(floor)}
    for start, meet, into in tree_of(floor, reach):
        if lives[start] is not None and lives[start] < least:
            for cell in walk_ahead_of(floor, reach, start, meet):
                heights[cell].append(height_at(floor, meet))
    return [max(heights[cell]) for cell in cells_of(floor)]


class WorkedFloorsTest(unittest.TestCase):
    def test_the_lives(self):
        for reach in REACHES:
            self.assertEqual(lives_of(ROW, reach), [(2, None), (0, 2), (4, 1)])
            self.assertEqual(lives_of(CHAIN, reach), [(6, None), (4, 5), (2, 3), (0, 1)])
            self.assertEqual(lives_of([[height] for height in ROW[0]], reach), [(2, None), (0, 2), (4, 1)])
        self.assertEqual(lives_of(CROSS, 4), [(5, None), (1, 4), (3, 3), (7, 2)])
        self.assertEqual(lives_of(CROSS, 8), [(5, None)])
        self.assertEqual(lives_of(NESTED, 4), [(24, None), (8, 2), (10, 1), (22, 1), (12, 3), (26, 1), (0, 0)])

    def test_a_life_of_nothing(self):
        self.assertEqual(lives_of(BRIEF, 4), [(0, None), (2, 0)])

    def test_the_longest_life(self):
        self.assertEqual(lives_of([[0, TOP, 0]], 4), [(0, None), (2, TOP)])
        self.assertEqual(lives_of(COMB, 8), [(0, None)] + [(start, TOP) for start in (2, 4, 6, 8, 10)])

    def test_put_away(self):
        for reach in REACHES:
            self.assertEqual(put_away(ROW, reach, 0), ROW)
            self.assertEqual(put_away(ROW, reach, 1), ROW)
            self.assertEqual(put_away(ROW, reach, 2), [[1, 3, 0, 2, 2]])
            self.assertEqual(put_away(ROW, reach, 3), [[3, 3, 0, 2, 2]])
            self.assertEqual(put_away(ROW, reach, TOP), [[3, 3, 0, 2, 2]])

    def test_a_cell_of_several_lakes_gets_the_greatest_height(self):
        self.assertEqual(put_away(CHAIN, 4, 1), CHAIN)
        self.assertEqual(put_away(CHAIN, 4, 2), [[4, 4, 2, 5, 1, 6, 0]])
        self.assertEqual(put_away(CHAIN, 4, 3), [[4, 4, 2, 5, 1, 6, 0]])
        self.assertEqual(put_away(CHAIN, 4, 4), [[5, 5, 5, 5, 1, 6, 0]])
        self.assertEqual(put_away(CHAIN, 4, 6), [[6, 6, 6, 6, 6, 6, 0]])

    def test_more_rows_than_columns(self):
        self.assertEqual(put_away([[height] for height in CHAIN[0]], 8, 4), [[5], [5], [5], [5], [1], [6], [0]])

    def test_a_square_floor(self):
        self.assertEqual(put_away(CROSS, 4, 4), [[9, 1, 9], [5, 5, 0], [9, 5, 9]])
        self.assertEqual(put_away(CROSS, 4, 5), [[9, 5, 9], [5, 5, 0], [9, 5, 9]])
        self.assertEqual(put_away(CROSS, 8, TOP), CROSS)

    def test_the_first_lake_is_never_put_away(self):
        for floor in ([[0]], [[TOP]], [[0, 1, 2]], [[7] * 12 for row in range(12)]):
            for reach in REACHES:
                self.assertEqual(put_away(floor, reach, TOP), floor)

    def test_the_longest_life_is_not_less_than_the_greatest_least(self):
        self.assertEqual(put_away(COMB, 4, TOP), COMB)
        self.assertEqual(put_away([[1, TOP, 0]], 4, TOP), [[TOP, TOP, 0]])

    def test_alike_heights_stay(self):
        self.assertEqual(put_away(BRIEF, 4, 1), BRIEF)
        self.assertEqual(put_away(BRIEF, 4, TOP), BRIEF)

    def test_somewhat_beyond_the_bounds(self):
        self.assertEqual(lives_of([[-1, TOP + 1, -2]], 4), [(2, None), (0, TOP + 2)])
        self.assertEqual(put_away([[0, TOP, 0]], 4, TOP + 1), [[0, TOP, TOP]])
        self.assertEqual(put_away(ROW, 4, -1), ROW)
        wide = [[2] * 14 for row in range(13)]
        self.assertEqual(put_away(wide, 8, 5), wide)
        self.assertEqual((lives_of([], 4), put_away([], 4, 1)), ([], []))


class WalkedFloorsTest(unittest.TestCase):
    def each_floor(self, floors=FLOORS):
        for floor in floors:
            for reach in REACHES:
                yield floor, reach

    def each_least(self, floors=FLOORS):
        for floor, reach in self.each_floor(floors):
            for least in leasts_to_ask(floor, reach):
                yield floor, reach, least

    def test_the_lives_by_the_tree(self):
        for floor, reach in self.each_floor():
            self.assertEqual(lives_of(floor, reach), list(lives_by_tree(floor, reach).items()), (floor, reach))

    def test_put_away_by_walking(self):
        for floor, reach, least in self.each_least():
            told = put_away(floor, reach, least)
            self.assertEqual([len(row) for row in told], [len(row) for row in floor])
            self.assertEqual(flat(told), put_away_by_walking(floor, reach, least), (floor, reach, least))

    def test_a_least_life_of_nothing_puts_nothing_away(self):
        for floor, reach in self.each_floor():
            self.assertEqual(put_away(floor, reach, 0), floor)

    def test_just_the_long_lived_lakes_are_left(self):
        for floor, reach, least in self.each_least(FLOORS + all_small_floors()[::7]):
            if least < 1:
                continue
            land = put_away(floor, reach, least)
            long = [start for start, life in lives_of(floor, reach) if life is None or life >= least]
            left = [start for start, life in lives_of(land, reach) if life is None or life >= 1]
            self.assertEqual(left, long, (floor, reach, least))
            self.assertEqual(self.ends_of(land, reach, left), self.ends_of(floor, reach, long), (floor, reach, least))

    def ends_of(self, floor, reach, starts):
        meets = {start: meet for start, meet, into in tree_of(floor, reach)}
        return [None if meets[start] is None else height_at(floor, meets[start]) for start in starts]

    def test_passes_between_cells_not_raised_are_as_high(self):
        floors = [ROW, CROSS, BRIEF, CHAIN, NESTED] + chance_floors(31, 12, 4, 4) + all_small_floors()[::40]
        for floor, reach, least in self.each_least(floors):
            if least < 1:
                continue
            land = put_away(floor, reach, least)
            stayed = [cell for cell in cells_of(floor) if height_at(land, cell) == height_at(floor, cell)]
            for one in stayed[::1 + len(stayed) // 12]:
                for other in stayed[::1 + len(stayed) // 12]:
                    ahead = height_at(floor, pass_between(floor, reach, one, other)[0])
                    behind = height_at(land, pass_between(land, reach, one, other)[0])
                    self.assertEqual(behind, ahead, (floor, reach, least, one, other))


if __name__ == "__main__":
    unittest.main()
