"""Lives: how long each lake lasts while the water rises, and land without the short-lived ones."""

from floodtree.cells import floor_of, height_of, heights_by_number, size_of
from floodtree.lakes import tree_of
from floodtree.stretches import stretch_ahead_of


def life_of(floor, start, meet):
    if meet is None:
        return None
    return height_of(floor, meet) - height_of(floor, start)


def lives_of(floor, reach):
    return [(start, life_of(floor, start, meet)) for start, meet, into in tree_of(floor, reach)]


# The first lake ends nowhere, so it is never one of these.
def short_lived(floor, reach, least):
    ending = [(start, meet) for start, meet, into in tree_of(floor, reach) if meet is not None]
    return [(start, meet) for start, meet in ending if life_of(floor, start, meet) < least]


def put_away(floor, reach, least):
    heights = heights_by_number(floor)
    for start, meet in short_lived(floor, reach, least):
        for cell in stretch_ahead_of(floor, reach, start, meet):
            heights[cell] = max(heights[cell], height_of(floor, meet))
    return floor_of(size_of(floor), heights)
