"""Promise [2]: kinds of what is told, and that nothing told or handed in is tied to anything else."""

import copy
import unittest

from floodtree.basins import basins_of, falls_of, lines_of, tree_by_lines
from floodtree.cells import comes_before, height_of, in_order, neighbours, on_rim, size_of
from floodtree.filling import drains_of, filled, flooded
from floodtree.lakes import counts_of, homes_of, lakes_at, tree_of
from floodtree.land import Land
from floodtree.lives import lives_of, put_away
from floodtree.passes import pass_between
from floodtree.peaks import high_stretches, peaks_of, turned
from floodtree.stretches import stretch_under, stretches_at
from floodtree.texts import picture
from tests.helper import COMB, NESTED, REACHES, TOP

FLOORS = [
    [[1, 3, 0, 2, 1]],
    [[9, 1, 9], [2, 5, 0], [9, 3, 9]],
    [[1, 9, 1], [1, 1, 1]],
    [[3, 1], [4, 1], [5, 9], [2, 6]],
    [[0, TOP], [TOP, 0]],
    NESTED,
    COMB,
]


def bottoms_of(floor, reach):
    return [cell for cell, fall in enumerate(falls_of(floor, reach)) if fall is None]


LISTS = {
    "neighbours": lambda floor, reach: neighbours(size_of(floor), reach, 1),
    "in_order": lambda floor, reach: in_order(floor),
    "stretch_under": lambda floor, reach: stretch_under(floor, reach, 0, 1),
    "no stretch_under": lambda floor, reach: stretch_under(floor, reach, 1, 0),
    "stretches_at": lambda floor, reach: stretches_at(floor, reach, 3),
    "no stretches_at": lambda floor, reach: stretches_at(floor, reach, -1),
    "tree_of": tree_of,
    "homes_of": homes_of,
    "lakes_at": lambda floor, reach: lakes_at(floor, reach, 3),
    "counts_of": counts_of,
    "way": lambda floor, reach: pass_between(floor, reach, 0, len(floor[0]) * len(floor) - 1)[1],
    "way of one cell": lambda floor, reach: pass_between(floor, reach, 1, 1)[1],
    "inside": lambda floor, reach: pass_between(floor, reach, 0, len(floor[0]) * len(floor) - 1)[2],
    "no inside": lambda floor, reach: pass_between(floor, reach, 1, 1)[2],
    "filled": filled,
    "drains_of": drains_of,
    "flooded": lambda floor, reach: flooded(floor, reach, 3),
    "none flooded": lambda floor, reach: flooded(floor, reach, -1),
    "falls_of": falls_of,
    "basins_of": basins_of,
    "lines_of": lines_of,
    "tree_by_lines": lambda floor, reach: tree_by_lines(floor, bottoms_of(floor, reach), lines_of(floor, reach)),
    "lives_of": lives_of,
    "put_away none": lambda floor, reach: put_away(floor, reach, 0),
    "put_away some": lambda floor, reach: put_away(floor, reach, 2),
    "put_away all": lambda floor, reach: put_away(floor, reach, TOP),
    "turned": lambda floor, reach: turned(floor),
    "peaks_of": peaks_of,
    "high_stretches": lambda floor, reach: high_stretches(floor, reach, 3),
    "no high_stretches": lambda floor, reach: high_stretches(floor, reach, TOP + 1),
    "floor_now": lambda floor, reach: Land(floor, reach).floor_now(),
    "lakes": lambda floor, reach: Land(floor, reach).lakes(),
    "levels": lambda floor, reach: Land(floor, reach).levels(),
}
OTHERS = {
    "size_of": lambda floor, reach: size_of(floor),
    "on_rim": lambda floor, reach: on_rim(size_of(floor), 1),
    "height_of": lambda floor, reach: height_of(floor, 1),
    "comes_before": lambda floor, reach: comes_before(floor, 0, 1),
    "pass_between": lambda floor, reach: pass_between(floor, reach, 0, 1),
    "lake": lambda floor, reach: Land(floor, reach).lake(1, 3),
    "many_at": lambda floor, reach: Land(floor, reach).many_at(3),
}
# Lists of texts, and so not of the plain parts of the others.
DRAWN = {
    "picture": lambda floor, reach: picture(floor, reach, 3),
    "picture of nothing": lambda floor, reach: picture(floor, reach, -1),
}


def spoil(told):
    for part in told:
        if type(part) is list:
            spoil(part)
    told.reverse()
    told.append("spoilt")


def spoil_floor(floor):
    for row in floor:
        for column in range(len(row)):
            row[column] = 77 - column
    floor.append([5] * len(floor[0]))


def plain(told):
    """True where all is made of just ints, lists, tuples and None."""
    if type(told) in (list, tuple):
        return all(plain(part) for part in told)
    return told is None or type(told) is int


class KeptTest(unittest.TestCase):
    def each_call(self, calls):
        for name, call in calls.items():
            for floor in FLOORS:
                for reach in REACHES:
                    yield name, call, copy.deepcopy(floor), reach

    def test_the_floor_handed_in_stays(self):
        for name, call, floor, reach in self.each_call({**LISTS, **OTHERS, **DRAWN}):
            ahead = copy.deepcopy(floor)
            rows = list(floor)
            call(floor, reach)
            self.assertEqual(floor, ahead, name)
            self.assertTrue(all(one is other for one, other in zip(floor, rows)), name)

    def test_a_told_list_may_be_changed(self):
        for name, call, floor, reach in self.each_call({**LISTS, **DRAWN}):
            told = call(floor, reach)
            kept = copy.deepcopy(told)
            ahead = copy.deepcopy(floor)
            spoil(told)
            self.assertEqual(floor, ahead, name)
            self.assertEqual(call(floor, reach), kept, name)

    def test_a_told_list_stays_when_the_floor_changes(self):
        for name, call, floor, reach in self.each_call({**LISTS, **DRAWN}):
            told = call(floor, reach)
            kept = copy.deepcopy(told)
            spoil_floor(floor)
            call(floor, reach)
            self.assertEqual(told, kept, name)

    def test_a_changed_floor_is_told_as_it_is_then(self):
        for name, call, floor, reach in self.each_call({**LISTS, **OTHERS, **DRAWN}):
            call(floor, reach)
            spoil_floor(floor)
            self.assertEqual(call(floor, reach), call(copy.deepcopy(floor), reach), name)
        floor = [[2, 5, 1]]
        tree_of(floor, 4)
        floor[0][0] = 0
        self.assertEqual(tree_of(floor, 4), [(0, None, None), (2, 1, 0)])

    def test_one_floor_is_told_the_same_behind_another_one(self):
        for name, call, floor, reach in self.each_call({**LISTS, **OTHERS, **DRAWN}):
            told = call(floor, reach)
            kept = copy.deepcopy(told)
            for other in FLOORS:
                for other_reach in REACHES:
                    call(other, other_reach)
            self.assertEqual(told, kept, name)
            self.assertEqual(call(floor, reach), kept, name)

    def test_two_answers_share_no_list(self):
        for name, call, floor, reach in self.each_call({**LISTS, **DRAWN}):
            one, other = call(floor, reach), call(floor, reach)
            kept = copy.deepcopy(other)
            spoil(one)
            self.assertEqual(other, kept, name)

    def test_no_two_rows_of_a_told_floor_are_one_list(self):
        shared = [[4, 4, 4]] * 3
        land = Land(shared)
        floors = (filled(shared, 4), put_away(shared, 4, 0), put_away(shared, 4, TOP), turned(shared))
        for told in floors + (land.floor_now(), land.levels()):
            self.assertEqual(told, shared)
            told[0][0] = 77
            self.assertEqual(told[1:], [[4, 4, 4], [4, 4, 4]])
        self.assertEqual(shared, [[4, 4, 4]] * 3)

    def test_bottoms_and_lines_handed_in_stay(self):
        for floor in FLOORS:
            for reach in REACHES:
                bottoms, lines = bottoms_of(floor, reach)[::-1], lines_of(floor, reach)[::-1]
                ahead = (list(bottoms), list(lines))
                told = tree_by_lines(floor, bottoms, lines)
                self.assertEqual((bottoms, lines), ahead)
                kept = list(told)
                spoil(told)
                self.assertEqual((bottoms, lines), ahead)
                self.assertEqual(tree_by_lines(floor, bottoms, lines), kept)

    def test_a_told_tree_stays_when_bottoms_and_lines_change(self):
        for floor in FLOORS:
            for reach in REACHES:
                bottoms, lines = bottoms_of(floor, reach), lines_of(floor, reach)
                told = tree_by_lines(floor, bottoms, lines)
                kept = list(told)
                bottoms.clear()
                lines.clear()
                self.assertEqual(told, kept)
                self.assertEqual(tree_by_lines(floor, bottoms_of(floor, reach), lines_of(floor, reach)), kept)


class KindsTest(unittest.TestCase):
    def test_lists_of_plain_parts(self):
        for name, call in LISTS.items():
            for floor in FLOORS:
                for reach in REACHES:
                    told = call(floor, reach)
                    self.assertIs(type(told), list, name)
                    self.assertTrue(plain(told), name)

    def test_the_parts_of_lists(self):
        for floor in FLOORS:
            for reach in REACHES:
                self.assertEqual({type(part) for part in stretches_at(floor, reach, 3)}, {list})
                self.assertEqual({(type(lake), len(lake)) for lake in tree_of(floor, reach)}, {(tuple, 3)})
                self.assertEqual({(type(pair), len(pair)) for pair in counts_of(floor, reach)}, {(tuple, 2)})
                self.assertEqual({type(start) for start in homes_of(floor, reach)}, {int})
                self.assertEqual({type(bottom) for bottom in basins_of(floor, reach)}, {int})
                self.assertEqual({(type(pair), len(pair)) for pair in lives_of(floor, reach)}, {(tuple, 2)})
                self.assertEqual({type(row) for row in filled(floor, reach)}, {list})
                self.assertEqual({type(row) for row in put_away(floor, reach, 2)}, {list})
                self.assertEqual({type(row) for row in turned(floor)}, {list})
                self.assertEqual({(type(lake), len(lake)) for lake in peaks_of(floor, reach)}, {(tuple, 3)})
                self.assertEqual({type(part) for part in high_stretches(floor, reach, 0)}, {list})
                self.assertEqual({type(row) for row in picture(floor, reach, 3)}, {str})
                lines = lines_of(floor, reach)
                self.assertTrue(all((type(line), len(line)) == (tuple, 3) for line in lines))
                tree = tree_by_lines(floor, bottoms_of(floor, reach), lines)
                self.assertEqual({(type(lake), len(lake)) for lake in tree}, {(tuple, 3)})

    def test_a_pass_is_a_tuple_of_a_cell_and_two_lists(self):
        for floor in FLOORS:
            for reach in REACHES:
                for one, other in ((0, 1), (1, 0), (1, 1)):
                    told = pass_between(floor, reach, one, other)
                    self.assertIs(type(told), tuple)
                    self.assertEqual([type(part) for part in told], [int, list, list])
                    self.assertTrue(plain(told))

    def test_the_other_kinds(self):
        for floor in FLOORS:
            self.assertIs(type(size_of(floor)), tuple)
            self.assertTrue(plain(size_of(floor)))
            self.assertIs(type(height_of(floor, 1)), int)
            self.assertIs(type(on_rim(size_of(floor), 1)), bool)
            self.assertIs(type(comes_before(floor, 0, 1)), bool)


if __name__ == "__main__":
    unittest.main()
