"""Basins: where each cell runs down to, the lines between basins, and the tree that these make."""

from floodtree.cells import all_cells, comes_before, earliest_of, in_order, neighbours, size_of
from floodtree.lakes import Meetings


def fall_of(floor, reach, cell):
    around = neighbours(size_of(floor), reach, cell)
    earliest = earliest_of(floor, around + [cell])
    return None if earliest == cell else earliest


def falls_of(floor, reach):
    return [fall_of(floor, reach, cell) for cell in all_cells(floor)]


def basins_of(floor, reach):
    falls = falls_of(floor, reach)
    bottoms = {}
    # A cell falls to an earlier one, so in their order the bottom of that one is known already.
    for cell in in_order(floor):
        bottoms[cell] = cell if falls[cell] is None else bottoms[falls[cell]]
    return [bottoms[cell] for cell in all_cells(floor)]


# The bottoms of two basins, the lesser number first, for each earlier neighbour in another basin.
def pairs_at(floor, reach, basins, cell):
    own = basins[cell]
    around = neighbours(size_of(floor), reach, cell)
    bottoms = [basins[other] for other in around if comes_before(floor, other, cell)]
    return [(min(own, bottom), max(own, bottom)) for bottom in bottoms if bottom != own]


def lines_of(floor, reach):
    basins = basins_of(floor, reach)
    found = {}
    # Each cell is looked at as the later of two, in the order, so the first one of a pair is the earliest.
    for cell in in_order(floor):
        for pair in pairs_at(floor, reach, basins, cell):
            found.setdefault(pair, cell)
    return [pair + (found[pair],) for pair in sorted(found)]


def bottoms_by_cell(lines):
    found = {}
    for one, other, cell in lines:
        found.setdefault(cell, []).extend([one, other])
    return found


def tree_by_lines(floor, bottoms, lines):
    order = in_order(floor)
    joined = bottoms_by_cell(lines)
    meetings = Meetings(floor)
    for cell in order:
        if cell in joined:
            meetings.let_meet(joined[cell], cell)
    return meetings.tree([cell for cell in order if cell in bottoms])
