"""Passes: the earliest cell over which one gets from one cell to another."""

from floodtree.cells import in_order
from floodtree.lakes import Water
from floodtree.stretches import stretch_ahead_of, ways_back


# While the cells come in their order, a way is there for the first time when both cells lie in one lake.
def joining_cell(floor, reach, one, other):
    water = Water(floor, reach)
    for cell in in_order(floor):
        water.let_come(cell)
        start = water.start_now(one)
        if start is not None and start == water.start_now(other):
            return cell
    return None


# The steps lead back to the cell from which they were found, so they are looked for from the far end.
def way_under(floor, reach, one, other, last):
    back = ways_back(floor, reach, other, last)
    way = [one]
    while way[-1] != other:
        way.append(back[way[-1]])
    return way


def pass_between(floor, reach, one, other):
    latest = joining_cell(floor, reach, one, other)
    way = way_under(floor, reach, one, other, latest)
    return (latest, way, stretch_ahead_of(floor, reach, one, latest))
