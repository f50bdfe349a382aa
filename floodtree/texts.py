"""Texts: a floor read from one, and a picture of a floor under water."""

from floodtree.cells import floor_of, in_order, size_of
from floodtree.errors import NoFloor
from floodtree.lakes import lakes_at

FIGURES = "0123456789"
LETTERS = "abcdefghijklmnopqrstuvwxyz"
MOST_FIGURES = 19
MOST_LINES = 12
MOST_WORDS = 12


# None where the word is no number: a number is in figures without noughts ahead, and in not too many.
def number_in(word):
    # The length is looked at ahead of int, which refuses very long words with an error of its own.
    if word == "" or len(word) > MOST_FIGURES:
        return None
    if not all([sign in FIGURES for sign in word]):
        return None
    if word[0] == "0" and word != "0":
        return None
    return int(word)


def height_in(word):
    number = number_in(word)
    if number is None or number > 10 ** 18:
        return None
    return number


# None where the line is none of a floor's.
def row_in(line):
    heights = [height_in(word) for word in line.split(" ")]
    if None in heights or len(heights) > MOST_WORDS:
        return None
    return heights


def read_floor(text):
    floor = []
    for number, line in enumerate(text.split("\n")):
        row = row_in(line)
        if row is None or number >= MOST_LINES:
            raise NoFloor(number)
        if floor and len(row) != len(floor[0]):
            raise NoFloor(number)
        floor.append(row)
    return floor


# The sign of each stretch, by its earliest cell, and that of the cells in none.
def signs_of(starts):
    signs = {None: "#"}
    for place, start in enumerate(starts):
        signs[start] = LETTERS[place] if place < len(LETTERS) else "+"
    return signs


def picture(floor, reach, height):
    lakes = lakes_at(floor, reach, height)
    # A lake is called by the earliest cell of its stretch, so this is the one cell called by its own number.
    signs = signs_of([cell for cell in in_order(floor) if lakes[cell] == cell])
    return ["".join(row) for row in floor_of(size_of(floor), [signs[start] for start in lakes])]
