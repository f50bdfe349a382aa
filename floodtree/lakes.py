"""Lakes: where they begin, where they meet, and which one lives on."""

from floodtree.cells import all_cells, covered_at, earliest_of, height_of, heights_in, in_order, neighbours, size_of


# For each lake that has ended, by its start, a tuple (meet, into) is kept.
class Meetings:
    def __init__(self, floor):
        self.floor = floor
        self.ended = {}

    # Into is never rewritten: the lake that lives on by now is found by going on from ended lakes.
    def living(self, start):
        here = start
        while here in self.ended:
            here = self.ended[here][1]
        return here

    def let_meet(self, starts, meet):
        met = [self.living(start) for start in starts]
        elder = earliest_of(self.floor, met)
        for start in met:
            if start != elder:
                self.ended[start] = (meet, elder)
        return elder

    def tree(self, starts):
        return [(start,) + self.ended.get(start, (None, None)) for start in starts]


# Rising water keeps the home of each cell that has come, None for the others.
class Water:
    def __init__(self, floor, reach):
        self.floor = floor
        self.reach = reach
        self.homes = [None for cell in all_cells(floor)]
        self.meetings = Meetings(floor)

    # A cell that hasn't come has None for its home, which is no start, and so None is told of it.
    def start_now(self, cell):
        return self.meetings.living(self.homes[cell])

    def homes_around(self, cell):
        around = neighbours(size_of(self.floor), self.reach, cell)
        return [self.homes[other] for other in around if self.homes[other] is not None]

    def let_come(self, cell):
        homes = self.homes_around(cell)
        self.homes[cell] = self.meetings.let_meet(homes, cell) if homes else cell


def water_over(floor, reach, cells):
    water = Water(floor, reach)
    for cell in cells:
        water.let_come(cell)
    return water


def tree_of(floor, reach):
    order = in_order(floor)
    water = water_over(floor, reach, order)
    # Only the cell that begins a lake is its own home.
    return water.meetings.tree([cell for cell in order if water.homes[cell] == cell])


def homes_of(floor, reach):
    return water_over(floor, reach, in_order(floor)).homes


def lakes_at(floor, reach, height):
    water = water_over(floor, reach, covered_at(floor, height))
    return [water.start_now(cell) for cell in all_cells(floor)]


def many_up_to(heights, height):
    return len([one for one in heights if one <= height])


def counts_of(floor, reach):
    tree = tree_of(floor, reach)
    begins = [height_of(floor, start) for start, meet, into in tree]
    ends = [height_of(floor, meet) for start, meet, into in tree if meet is not None]
    # A lake that has ended at a height isn't one at it any more.
    return [(height, many_up_to(begins, height) - many_up_to(ends, height)) for height in heights_in(floor)]
