"""Peaks: the floor upside down, and the cells that hang together high up."""

from floodtree.cells import floor_of, heights_by_number, size_of
from floodtree.lakes import tree_of
from floodtree.stretches import stretches_at


# Each height and the turned one make up this number together.
def both_heights(floor):
    heights = heights_by_number(floor)
    # A floor without rows lies beyond the bounds, and isn't refused for it.
    return min(heights, default=0) + max(heights, default=0)


def turned(floor):
    both = both_heights(floor)
    return floor_of(size_of(floor), [both - height for height in heights_by_number(floor)])


def peaks_of(floor, reach):
    return tree_of(turned(floor), reach)


# Turned, the cells that are at least so high are just those that are not higher than the height turned likewise.
def high_stretches(floor, reach, height):
    return stretches_at(turned(floor), reach, both_heights(floor) - height)
