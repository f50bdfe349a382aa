"""Cells of a floor: where they lie, how high they are, and their order."""


def size_of(floor):
    # A floor without rows lies beyond the bounds, and isn't refused for it.
    columns = len(floor[0]) if floor else 0
    return (len(floor), columns)


def neighbours(size, reach, cell):
    row = cell // size[1]
    column = cell % size[1]
    # A cell that touches only at a corner is two steps away, one along the row and one along the column.
    most_steps = 2 if reach == 8 else 1
    found = []
    for other_row in range(max(0, row - 1), min(size[0], row + 2)):
        for other_column in range(max(0, column - 1), min(size[1], column + 2)):
            if 0 < abs(other_row - row) + abs(other_column - column) <= most_steps:
                found.append(other_row * size[1] + other_column)
    return found


def on_rim(size, cell):
    row = cell // size[1]
    column = cell % size[1]
    return row in (0, size[0] - 1) or column in (0, size[1] - 1)


def height_of(floor, cell):
    columns = size_of(floor)[1]
    return floor[cell // columns][cell % columns]


def all_cells(floor):
    size = size_of(floor)
    return list(range(size[0] * size[1]))


def is_cell(floor, number):
    size = size_of(floor)
    return 0 <= number < size[0] * size[1]


def heights_by_number(floor):
    return [height_of(floor, cell) for cell in all_cells(floor)]


# Every row is cut out anew, so that no two rows of the floor told are one list.
def floor_of(size, heights):
    columns = size[1]
    return [heights[row * columns:(row + 1) * columns] for row in range(size[0])]


# Each height that a cell has, once, rising.
def heights_in(floor):
    return sorted(set(heights_by_number(floor)))


# Every question of earlier and later goes through this one key, so that none goes by numbers alone.
def order_key(floor, cell):
    return (height_of(floor, cell), cell)


def comes_before(floor, one, other):
    return order_key(floor, one) < order_key(floor, other)


def earliest_of(floor, cells):
    return min(cells, key=lambda cell: order_key(floor, cell))


def in_order(floor):
    return sorted(all_cells(floor), key=lambda cell: order_key(floor, cell))


# The cells that water at this height covers, from the earliest to the latest.
def covered_at(floor, height):
    return [cell for cell in in_order(floor) if height_of(floor, cell) <= height]
