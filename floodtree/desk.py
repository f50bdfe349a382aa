"""Desk: a floor that is asked and changed by rows of words."""

from floodtree.cells import height_of
from floodtree.errors import NoRow
from floodtree.land import Land
from floodtree.passes import pass_between
from floodtree.texts import height_in, number_in, picture, read_floor

# For each word with which a row begins, the kinds of the numbers behind it.
KINDS = {
    "lakes": (),
    "pass": ("cell", "cell"),
    "level": ("cell",),
    "count": ("height",),
    "draw": ("height",),
    "set": ("cell", "height"),
}


def number_of(kind, word):
    number = height_in(word) if kind == "height" else number_in(word)
    if number is None:
        raise NoRow(f"{word!r} is no {kind}")
    return number


def numbers_of(words):
    first = words[0]
    if first not in KINDS:
        raise NoRow(f"no row begins with {first!r}")
    kinds = KINDS[first]
    if len(words) != 1 + len(kinds):
        raise NoRow(f"no row that begins with {first!r} has so many words")
    return [number_of(kind, word) for kind, word in zip(kinds, words[1:])]


def lake_in_words(lake):
    return " ".join(["-" if part is None else str(part) for part in lake])


def pass_in_words(floor, reach, one, other):
    cell = pass_between(floor, reach, one, other)[0]
    height = height_of(floor, cell)
    return f"{cell} {height}"


def answer(land, first, numbers):
    if first == "lakes":
        return "; ".join([lake_in_words(lake) for lake in land.lakes()])
    if first == "pass":
        return pass_in_words(land.floor_now(), land.reach, numbers[0], numbers[1])
    if first == "level":
        return str(height_of(land.levels(), numbers[0]))
    if first == "count":
        return str(land.many_at(numbers[0]))
    if first == "draw":
        return "\n".join(picture(land.floor_now(), land.reach, numbers[0]))
    land.change(numbers[0], numbers[1])
    return "ok"


class Desk:
    def __init__(self, text, reach=4):
        self.land = Land(read_floor(text), reach)

    # Cells are looked at once every word of the row is known to be right, so a row with both faults is no row.
    def say(self, row):
        words = row.split(" ")
        numbers = numbers_of(words)
        for kind, number in zip(KINDS[words[0]], numbers):
            if kind == "cell":
                self.land.must_have(number)
        return answer(self.land, words[0], numbers)
