"""Land: a floor that is kept, asked, and changed cell by cell."""

from floodtree.cells import floor_of, heights_by_number, is_cell, size_of
from floodtree.errors import NoCell
from floodtree.filling import filled
from floodtree.lakes import lakes_at, tree_of
from floodtree.stretches import stretches_at


def copy_of(floor):
    return floor_of(size_of(floor), heights_by_number(floor))


# Nothing but the floor is kept, and each answer is found anew from it, so no answer can be older than a change.
class Land:
    def __init__(self, floor, reach=4):
        self.floor = copy_of(floor)
        self.reach = reach

    def floor_now(self):
        return copy_of(self.floor)

    def lakes(self):
        return tree_of(self.floor, self.reach)

    def lake(self, cell, height):
        return lakes_at(self.floor, self.reach, height)[cell]

    def many_at(self, height):
        return len(stretches_at(self.floor, self.reach, height))

    def levels(self):
        return filled(self.floor, self.reach)

    def must_have(self, cell):
        if not is_cell(self.floor, cell):
            raise NoCell(f"{cell} is no cell of the floor")

    def change(self, cell, height):
        self.must_have(cell)
        columns = size_of(self.floor)[1]
        self.floor[cell // columns][cell % columns] = height
