"""Tiles exchanged on a floor, and told by other numbers."""

from floorfits.errors import NoTile
from floorfits.floors import has_number, is_tuple_of, may_lie, numbers_on, tile_at, with_number


def exchanged(tiles, floor, one, other):
    first = tile_at(floor, one)
    second = tile_at(floor, other)
    return with_number(with_number(floor, one, second), other, first)


def is_order(tiles, thing):
    if not is_tuple_of(thing, len(tiles), len(tiles)):
        return False
    # The numbers come first: only they are sure to be hashable.
    return all([has_number(tiles, part) for part in thing]) and len(set(thing)) == len(thing)


def refuse_no_order(tiles, order):
    if not is_order(tiles, order):
        raise NoTile("this is no order of the set's numbers")


def set_by(tiles, order):
    refuse_no_order(tiles, order)
    return tuple([tiles[number] for number in order])


def row_by(row, numbers):
    return tuple([numbers.get(number, number) for number in row])


def floor_by(tiles, floor, order):
    refuse_no_order(tiles, order)
    numbers = {}
    for new, old in enumerate(order):
        numbers[old] = new
    return tuple([row_by(row, numbers) for row in floor])


def row_replaced(row, old, new):
    return tuple([new if number == old else number for number in row])


def replaced(tiles, floor, old, new):
    if not may_lie(tiles, new):
        raise NoTile("the set has no such number")
    return tuple([row_replaced(row, old, new) for row in floor])


def unused(tiles, floor):
    standing = numbers_on(floor)
    return [number for number in range(len(tiles)) if number not in standing]
