"""Stretches: the cells that hang together below a last cell or at a height."""

from floodtree.cells import comes_before, covered_at, in_order, neighbours, size_of


# For each cell of the stretch the next one on a shortest way back, None for the cell itself.
def ways_back(floor, reach, cell, last):
    size = size_of(floor)
    back = {cell: None}
    waiting = [cell]
    while waiting:
        here = waiting.pop(0)
        for other in neighbours(size, reach, here):
            if other not in back and not comes_before(floor, last, other):
                back[other] = here
                waiting.append(other)
    return back


def stretch_under(floor, reach, cell, last):
    if comes_before(floor, last, cell):
        return []
    return sorted(ways_back(floor, reach, cell, last))


# The stretch of a cell under the one right ahead of a later cell; none where the later cell isn't later.
def stretch_ahead_of(floor, reach, cell, later):
    if not comes_before(floor, cell, later):
        return []
    order = in_order(floor)
    return stretch_under(floor, reach, cell, order[order.index(later) - 1])


def stretches_at(floor, reach, height):
    covered = covered_at(floor, height)
    found = []
    seen = {}
    # By rising numbers each stretch is met at its first one, so they come sorted by these.
    for cell in sorted(covered):
        if cell not in seen:
            stretch = stretch_under(floor, reach, cell, covered[-1])
            found.append(stretch)
            for other in stretch:
                seen[other] = True
    return found
