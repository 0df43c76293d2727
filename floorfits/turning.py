"""Sets and floors turned and mirrored; floors joined, parted and rolled."""

from floorfits.errors import Unlike
from floorfits.floors import EAST, NORTH, SOUTH, WEST
from floorfits.floors import size_of


def turned_set(tiles):
    return tuple([(tile[WEST], tile[NORTH], tile[EAST], tile[SOUTH]) for tile in tiles])


def column_from_south(floor, column):
    return tuple([row[column] for row in reversed(floor)])


def turned_floor(floor):
    return tuple([column_from_south(floor, column) for column in range(size_of(floor)[1])])


def mirrored_set(tiles):
    return tuple([(tile[NORTH], tile[WEST], tile[SOUTH], tile[EAST]) for tile in tiles])


def mirrored_floor(floor):
    return tuple([tuple(reversed(row)) for row in floor])


def beside(one, other):
    if size_of(one)[0] != size_of(other)[0]:
        raise Unlike("the floors have not as many rows")
    return tuple([row + further for row, further in zip(one, other)])


def below(one, other):
    if size_of(one)[1] != size_of(other)[1]:
        raise Unlike("the floors have not as many columns")
    return one + other


def stretch(things, first, many):
    # Python would count numbers below 0 from the end.
    return things[max(first, 0):max(first + many, 0)]


def part(floor, top, left, rows, columns):
    return tuple([stretch(row, left, columns) for row in stretch(floor, top, rows)])


def rolled_row(row, by):
    return tuple([row[(column - by) % len(row)] for column in range(len(row))])


def rolled(floor, by):
    return tuple([rolled_row(row, by) for row in floor])
