"""Stretches: the cells that hang together below a last cell or at a height."""

from floodtree.cells import comes_before, covered_at, neighbours, size_of


def stretch_under(floor, reach, cell, last):
    if comes_before(floor, last, cell):
        return []
    size = size_of(floor)
    found = {cell: True}
    waiting = [cell]
    while waiting:
        here = waiting.pop()
        for other in neighbours(size, reach, here):
            if other not in found and not comes_before(floor, last, other):
                found[other] = True
                waiting.append(other)
    return sorted(found)


def stretches_at(floor, reach, height):
    covered = covered_at(floor, height)
    found = []
    seen = {}
    # By rising numbers each stretch is met at its first one, so they come sorted by these.
    for cell in sorted(covered):
        if cell not in seen:
            stretch = stretch_under(floor, reach, cell, covered[-1])
            found.append(stretch)
            for other in stretch:
                seen[other] = True
    return found
