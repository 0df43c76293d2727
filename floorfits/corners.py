"""Floors painted by the colours of corners: sixteen tiles, one for each choice of two colours at four corners."""

from floorfits.errors import Unlike
from floorfits.floors import is_right, is_tuple_of, is_whole
from floorfits.floors import has_place, places_of, refuse_outside, with_number

LEAST_CORNERS = 2
MOST_CORNERS = 7
CHOICES = 16

NORTHWEST = 0
NORTHEAST = 1
SOUTHEAST = 2
SOUTHWEST = 3


def corner_tile(northwest, northeast, southeast, southwest):
    return (
        3 * northwest + northeast,
        3 * northeast + southeast,
        3 * southwest + southeast,
        3 * northwest + southwest,
    )


def corner_number(northwest, northeast, southeast, southwest):
    return 8 * northwest + 4 * northeast + 2 * southeast + southwest


def corners_at(number):
    return (number // 8 % 2, number // 4 % 2, number // 2 % 2, number % 2)


def tile_by(number):
    around = corners_at(number)
    return corner_tile(around[NORTHWEST], around[NORTHEAST], around[SOUTHEAST], around[SOUTHWEST])


def corner_set():
    return tuple([tile_by(number) for number in range(CHOICES)])


def is_corner(thing):
    return is_whole(thing) and 0 <= thing <= 1


def is_row_of_corners(thing):
    return is_tuple_of(thing, LEAST_CORNERS, MOST_CORNERS) and all([is_corner(part) for part in thing])


def are_corners(thing):
    if not is_tuple_of(thing, LEAST_CORNERS, MOST_CORNERS):
        return False
    if not all([is_row_of_corners(part) for part in thing]):
        return False
    return all([len(row) == len(thing[0]) for row in thing])


def number_between(upper, lower, column):
    return corner_number(upper[column], upper[column + 1], lower[column + 1], lower[column])


def row_between(upper, lower):
    return tuple([number_between(upper, lower, column) for column in range(len(upper) - 1)])


def floor_of(corners):
    return tuple([row_between(upper, lower) for upper, lower in zip(corners, corners[1:])])


def upper_corners(row):
    first = corners_at(row[0])[NORTHWEST]
    return (first,) + tuple([corners_at(number)[NORTHEAST] for number in row])


def lower_corners(row):
    first = corners_at(row[0])[SOUTHWEST]
    return (first,) + tuple([corners_at(number)[SOUTHEAST] for number in row])


def corners_of(floor):
    # Tiles of this set fit just where they have both corners between them in common.
    if len(places_of(floor)) == 0 or not is_right(corner_set(), floor):
        raise Unlike("no map of corners has this floor")
    return tuple([upper_corners(row) for row in floor]) + (lower_corners(floor[-1]),)


def with_corner(corners, place, colour):
    refuse_outside(corners, place)
    return with_number(corners, place, colour)


def tiles_around(corners, place):
    floor = floor_of(corners)
    row = place[0]
    column = place[1]
    around = [(row - 1, column - 1), (row - 1, column), (row, column - 1), (row, column)]
    return [near for near in around if has_place(floor, near)]
