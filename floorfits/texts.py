"""Sets and floors written as texts, and read back."""

from floorfits.errors import NoText
from floorfits.floors import is_floor, is_set

FIGURES = "012345678"
BARE = "-"
# Stands for what is not the writing of a colour or number: no set has it, and no floor.
UNREAD = "?"


def tile_text(tile):
    return "".join([str(colour) for colour in tile])


def set_text(tiles):
    return "".join([tile_text(tile) + "\n" for tile in tiles])


def number_text(number):
    return BARE if number is None else str(number)


def row_text(row):
    return " ".join([number_text(number) for number in row])


def floor_text(floor):
    return "\n".join([row_text(row) for row in floor])


def colour_by(sign):
    return FIGURES.index(sign) if sign in FIGURES else UNREAD


def read_tile(line):
    return tuple([colour_by(sign) for sign in line])


def read_set(text):
    if not text.endswith("\n"):
        raise NoText("the last line is not ended")
    tiles = tuple([read_tile(line) for line in text[:-1].split("\n")])
    if not is_set(tiles):
        raise NoText("this is not the writing of a set")
    return tiles


def numbers_by_text(tiles):
    # Looked up as they are written: Python's own reading of numbers takes 01, +1 and blanks too.
    known = {BARE: None}
    for number in range(len(tiles)):
        known[number_text(number)] = number
    return known


def read_row(known, line):
    return tuple([known.get(word, UNREAD) for word in line.split(" ")])


def read_floor(tiles, text):
    known = numbers_by_text(tiles)
    floor = tuple([read_row(known, line) for line in text.split("\n")])
    if not is_floor(tiles, floor):
        raise NoText("this is not the writing of a floor of the set")
    return floor
