"""Lakes: where they begin, where they meet, and which one lives on."""

from floodtree.cells import covered_at, earliest_of, height_of, in_order, neighbours, size_of


# Rising water keeps the home of each cell that has come (None for the others),
# and for each lake that has ended, by its start, a tuple (meet, into).
class Water:
    def __init__(self, floor, reach):
        self.floor = floor
        self.reach = reach
        self.homes = [None for cell in in_order(floor)]
        self.ends = {}

    # A home is never rewritten: the lake in which a cell lies by now is found by going on from ended lakes.
    def start_now(self, cell):
        start = self.homes[cell]
        while start in self.ends:
            start = self.ends[start][1]
        return start

    def starts_around(self, cell):
        around = neighbours(size_of(self.floor), self.reach, cell)
        return [self.start_now(other) for other in around if self.homes[other] is not None]

    def let_come(self, cell):
        starts = self.starts_around(cell)
        elder = earliest_of(self.floor, starts) if starts else cell
        self.homes[cell] = elder
        for start in starts:
            if start != elder:
                self.ends[start] = (cell, elder)


def water_over(floor, reach, cells):
    water = Water(floor, reach)
    for cell in cells:
        water.let_come(cell)
    return water


def tree_of(floor, reach):
    order = in_order(floor)
    water = water_over(floor, reach, order)
    tree = []
    for cell in order:
        # Only the cell that begins a lake is its own home.
        if water.homes[cell] == cell:
            end = water.ends.get(cell, (None, None))
            tree.append((cell, end[0], end[1]))
    return tree


def homes_of(floor, reach):
    return water_over(floor, reach, in_order(floor)).homes


def lakes_at(floor, reach, height):
    water = water_over(floor, reach, covered_at(floor, height))
    # A higher cell hasn't come: its home is None, which is no start, and so None is told of it.
    return [water.start_now(cell) for cell in range(len(water.homes))]


def many_up_to(heights, height):
    return len([one for one in heights if one <= height])


def counts_of(floor, reach):
    tree = tree_of(floor, reach)
    begins = [height_of(floor, start) for start, meet, into in tree]
    ends = [height_of(floor, meet) for start, meet, into in tree if meet is not None]
    # Each height of the floor stands once, and a lake that has ended at a height isn't one at it any more.
    heights = sorted(set([height_of(floor, cell) for cell in in_order(floor)]))
    return [(height, many_up_to(begins, height) - many_up_to(ends, height)) for height in heights]
