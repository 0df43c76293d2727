"""Sets for the tests, and the document's words put as plainly and slowly as can be."""

from itertools import product
from random import Random

NORTH, EAST, SOUTH, WEST = range(4)

PAIR = ((0, 1, 0, 1), (1, 1, 0, 0))
# Fits nowhere beside itself.
LONE = ((0, 1, 2, 3),)
# All fit beside each other.
FREE = ((0, 0, 0, 0), (1, 0, 0, 0), (2, 0, 0, 0), (3, 0, 0, 0), (4, 0, 0, 0))
# All fit beside each other, and each below some of them.
ROWS = ((0, 5, 1, 5), (1, 5, 2, 5), (2, 5, 0, 5), (0, 5, 2, 5), (1, 5, 1, 5))


def sixteen():
    """The set of 7.1: one tile for each choice of colours 0 and 1 at its four corners."""
    return tuple(
        (3 * nw + ne, 3 * ne + se, 3 * sw + se, 3 * nw + sw)
        for nw, ne, se, sw in product((0, 1), repeat=4)
    )


def some_set(chance, most=5, colours=3):
    tiles = []
    for _ in range(chance.randint(1, most)):
        tile = tuple(chance.randrange(colours) for _ in range(4))
        if tile not in tiles:
            tiles.append(tile)
    return tuple(tiles)


def some_floor(chance, tiles, rows, columns, blank=0.5):
    return tuple(
        tuple(None if chance.random() < blank else chance.randrange(len(tiles)) for _ in range(columns))
        for _ in range(rows)
    )


def some_pairs(seed, many, sizes, blank=0.5, most=5, colours=3):
    """Sets with a floor each, the same ones in every run."""
    chance = Random(seed)
    for _ in range(many):
        tiles = some_set(chance, most, colours)
        rows, columns = chance.choice(sizes)
        yield tiles, some_floor(chance, tiles, rows, columns, blank)


def plain_clashes(tiles, floor):
    found = []
    for r, row in enumerate(floor):
        for c, number in enumerate(row):
            if number is None:
                continue
            if c + 1 < len(row) and row[c + 1] is not None:
                if tiles[number][EAST] != tiles[row[c + 1]][WEST]:
                    found.append(((r, c), "east"))
            if r + 1 < len(floor) and floor[r + 1][c] is not None:
                if tiles[number][SOUTH] != tiles[floor[r + 1][c]][NORTH]:
                    found.append(((r, c), "south"))
    return found


def all_floors(tiles, rows, columns):
    """All full floors, in order by their numbers, row by row."""
    for flat in product(range(len(tiles)), repeat=rows * columns):
        yield tuple(flat[r * columns:(r + 1) * columns] for r in range(rows))


def keeps(floor, whole):
    return all(
        number is None or number == whole[r][c]
        for r, row in enumerate(floor)
        for c, number in enumerate(row)
    )


def plain_fills(tiles, floor):
    return [
        whole
        for whole in all_floors(tiles, len(floor), len(floor[0]))
        if keeps(floor, whole) and not plain_clashes(tiles, whole)
    ]
