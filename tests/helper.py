"""Floors to test with, what the document says of them found the long way, without the program, and refusals."""

import itertools
import random

from floodtree.errors import FloodError, NoCell, NoFloor, NoRow

TOP = 10 ** 18
REACHES = (4, 8)
SIDES = ((-1, 0), (0, -1), (0, 1), (1, 0))
CORNERS = ((-1, -1), (-1, 1), (1, -1), (1, 1))
LETTERS = "abcdefghijklmnopqrstuvwxyz"

COMB = [[0, TOP] * 6 for row in range(12)]
CHESS = [[(row + column) % 2 for column in range(12)] for row in range(12)]
# Lakes within lakes, shut in on all sides.
NESTED = [
    [9, 9, 9, 9, 9, 9, 9],
    [9, 1, 3, 2, 7, 4, 9],
    [9, 3, 9, 3, 9, 6, 9],
    [9, 2, 3, 0, 8, 5, 9],
    [9, 9, 9, 9, 9, 9, 9],
]

EDGES = [
    [[0]],
    [[TOP]],
    [[1, 3, 0, 2, 1]],
    [[1], [3], [0], [2], [1]],
    [[7, 7, 7, 7]],
    [[7], [7], [7]],
    [[0, TOP, 0, TOP]],
    [[1, 9, 1], [1, 1, 1]],
    [[9, 1, 9], [2, 5, 0], [9, 3, 9]],
    [[5, 5, 5], [5, 5, 5], [5, 5, 5]],
    [[3, 1, 4, 1], [5, 9, 2, 6]],
    [[3, 1], [4, 1], [5, 9], [2, 6]],
    [[3, 4, 2, 5, 1, 6, 0]],
    NESTED,
]
LARGE = [COMB, CHESS, [[4] * 12 for row in range(12)]]


def chance_floors(seed, many, most_rows, most_columns):
    chance = random.Random(seed)
    floors = []
    for turn in range(many):
        rows = chance.randint(1, most_rows)
        columns = chance.randint(1, most_columns)
        heights = chance.choice(([0, 1], [0, 1, 2, 3], [0, 5, TOP], list(range(rows * columns))))
        floors.append([[chance.choice(heights) for column in range(columns)] for row in range(rows)])
    return floors


def all_small_floors():
    floors = []
    for rows, columns in ((1, 5), (5, 1), (2, 3), (3, 2)):
        for heights in itertools.product((0, 1, 2), repeat=rows * columns):
            floors.append([list(heights[row * columns:(row + 1) * columns]) for row in range(rows)])
    return floors


def floors_to_walk():
    return EDGES + chance_floors(1, 60, 5, 5) + all_small_floors()[::5]


def large_floors():
    chance = random.Random(2)
    mixed = [[[chance.randint(0, most) for column in range(12)] for row in range(12)] for most in (3, 40, TOP)]
    return LARGE + mixed


def heights_to_ask(floor):
    heights = {height for row in floor for height in row}
    return sorted({height + step for height in heights for step in (-1, 0, 1)})


def cells_of(floor):
    return list(range(len(floor) * len(floor[0])))


def height_at(floor, cell):
    return [height for row in floor for height in row][cell]


def place(floor, cell):
    return (height_at(floor, cell), cell)


def sorted_cells(floor):
    return sorted(cells_of(floor), key=lambda cell: place(floor, cell))


def walk_next(floor, reach, cell):
    rows, columns = len(floor), len(floor[0])
    row, column = divmod(cell, columns)
    steps = SIDES + CORNERS if reach == 8 else SIDES
    ends = [(row + down, column + right) for down, right in steps]
    return {r * columns + c for r, c in ends if 0 <= r < rows and 0 <= c < columns}


def walk_from(floor, reach, begins, allowed):
    """All cells to which ways lead from these cells over the allowed ones, one step at a time."""
    reached = begins & allowed
    while True:
        further = {other for one in reached for other in walk_next(floor, reach, one)} & allowed
        if further <= reached:
            return reached
        reached |= further


def walk(floor, reach, cell, allowed):
    return walk_from(floor, reach, {cell}, allowed)


def walk_under(floor, reach, cell, last):
    allowed = {one for one in cells_of(floor) if place(floor, one) <= place(floor, last)}
    return walk(floor, reach, cell, allowed)


def parts_of(floor, reach, cells):
    """The parts of these cells in which all hang together, each a sorted list, sorted."""
    left = set(cells)
    parts = []
    while left:
        part = walk(floor, reach, min(left), left)
        parts.append(sorted(part))
        left = left - part
    return parts


def walk_at(floor, reach, height):
    """The stretches at a height, each a sorted list, sorted."""
    return parts_of(floor, reach, {one for one in cells_of(floor) if height_at(floor, one) <= height})


def first_of(floor, cells):
    return min(cells, key=lambda cell: place(floor, cell))


def last_of(floor, cells):
    return max(cells, key=lambda cell: place(floor, cell))


def walk_ahead_of(floor, reach, cell, later):
    """The stretch of a cell under the one right ahead of a later cell."""
    allowed = {one for one in cells_of(floor) if place(floor, one) < place(floor, later)}
    return walk(floor, reach, cell, allowed)


def passes_from(floor, reach, one):
    """The pass from a cell to each cell: the first one, in the order, under which a way leads there."""
    found = {}
    for last in sorted_cells(floor):
        for other in walk_under(floor, reach, one, last):
            found.setdefault(other, last)
    return found


def rim_of(floor):
    rows, columns = len(floor), len(floor[0])
    places = [(cell, *divmod(cell, columns)) for cell in cells_of(floor)]
    return {cell for cell, row, column in places if row in (0, rows - 1) or column in (0, columns - 1)}


def walk_from_rim(floor, reach, height):
    allowed = {cell for cell in cells_of(floor) if height_at(floor, cell) <= height}
    return walk_from(floor, reach, rim_of(floor), allowed)


def flat(floor):
    return [height for row in floor for height in row]


def tree_by_walking(floor, reach):
    """The tree as [11] has it, from stretches alone."""
    order = sorted_cells(floor)
    tree = []
    for start in order:
        firsts = [first_of(floor, walk_under(floor, reach, start, last)) for last in order[order.index(start):]]
        if firsts[0] == start:
            ends = [(last, first) for last, first in zip(order[order.index(start):], firsts) if first != start]
            tree.append((start,) + (ends[0] if ends else (None, None)))
    return tree


def lakes_by_walking(floor, reach, height):
    """For each cell the earliest one of its stretch at a height, None for the higher ones."""
    lakes = [None for cell in cells_of(floor)]
    for part in walk_at(floor, reach, height):
        for cell in part:
            lakes[cell] = first_of(floor, part)
    return lakes


def levels_by_walking(floor, reach):
    """For each cell the least height of the floor at which a way leads to it from the rim."""
    levels = {}
    for height in sorted(set(flat(floor))):
        for cell in walk_from_rim(floor, reach, height):
            levels.setdefault(cell, height)
    return [levels[cell] for cell in cells_of(floor)]


def picture_by_walking(floor, reach, height):
    parts = sorted(walk_at(floor, reach, height), key=lambda part: place(floor, first_of(floor, part)))
    signs = ["#" for cell in cells_of(floor)]
    for number, part in enumerate(parts):
        for cell in part:
            signs[cell] = LETTERS[number] if number < 26 else "+"
    columns = len(floor[0])
    return ["".join(signs[row * columns:(row + 1) * columns]) for row in range(len(floor))]


def heights_in_bounds(floor):
    return sorted({0, TOP} | {height for height in heights_to_ask(floor) if 0 <= height <= TOP})


def some(heights, many):
    """About so many of them, evenly spread, the first and the last one among them."""
    return heights[:-1][::1 + len(heights) // many] + heights[-1:]


def text_of(floor):
    return "\n".join(" ".join(str(height) for height in row) for row in floor)


def with_height(floor, cell, height):
    """Another floor, with one cell's height changed."""
    changed = [list(row) for row in floor]
    changed[cell // len(floor[0])][cell % len(floor[0])] = height
    return changed


def chance_changes(seed, floor, many):
    """Cells with the heights that they get: heights of the floor, ones next to these, the least, the greatest."""
    chance = random.Random(seed)
    heights = heights_in_bounds(floor)
    return [(chance.choice(cells_of(floor)), chance.choice(heights)) for turn in range(many)]


def refused(case, refusal, call, *handed):
    """The error of a call that is refused: of this one class of refusals, and of no other one."""
    with case.assertRaises(refusal, msg=handed) as taken:
        call(*handed)
    case.assertIsInstance(taken.exception, FloodError)
    case.assertIsInstance(taken.exception, ValueError)
    for other in {NoCell, NoRow, NoFloor} - {refusal}:
        case.assertNotIsInstance(taken.exception, other, handed)
    return taken.exception
