"""Floors joined round: the last column's east side meets the first one's west side."""

from floorfits.counting import Ways
from floorfits.floors import EAST, WEST
from floorfits.floors import edges_of


def is_joined(tiles, floor):
    sides = edges_of(tiles, floor)
    # None stands where there is no tile, and nothing is joined there.
    return None not in sides[EAST] and sides[EAST] == sides[WEST]


def count_rounds(tiles, floor):
    return Ways(tiles, floor, True).count_all()


def first_round(tiles, floor):
    return Ways(tiles, floor, True).whole_by(0)
