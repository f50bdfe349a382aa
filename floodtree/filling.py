"""Filled land: how high water stands that can run off over the rim, and where water from the rim comes."""

from floodtree.cells import all_cells, floor_of, height_of, heights_in, neighbours, on_rim, size_of


# Water from the rim keeps for each cell that it has reached the height at which it did,
# and a drain for each of these and for each cell next to one of them.
class RimWater:
    def __init__(self, floor, reach):
        self.floor = floor
        self.reach = reach
        self.reached = {}
        self.drains = {}
        size = size_of(floor)
        for cell in all_cells(floor):
            if on_rim(size, cell):
                self.drains[cell] = None

    def rise_to(self, height):
        waiting = [cell for cell in self.drains if self.opens(cell, height)]
        while waiting:
            cell = waiting.pop()
            self.reached[cell] = height
            waiting.extend([other for other in self.new_beside(cell) if self.opens(other, height)])

    def opens(self, cell, height):
        return cell not in self.reached and height_of(self.floor, cell) <= height

    # A drain is reached ahead of the cell that it drains, so drains never lead round.
    def new_beside(self, cell):
        around = neighbours(size_of(self.floor), self.reach, cell)
        found = [other for other in around if other not in self.drains]
        for other in found:
            self.drains[other] = cell
        return found


def risen_over(floor, reach, heights):
    water = RimWater(floor, reach)
    for height in heights:
        water.rise_to(height)
    return water


def filled(floor, reach):
    water = risen_over(floor, reach, heights_in(floor))
    return floor_of(size_of(floor), [water.reached[cell] for cell in all_cells(floor)])


def drains_of(floor, reach):
    water = risen_over(floor, reach, heights_in(floor))
    return [water.drains[cell] for cell in all_cells(floor)]


def flooded(floor, reach, height):
    return sorted(risen_over(floor, reach, [height]).reached)
