"""Sets of tiles, floors of their numbers, and where neighbours clash."""

from floorfits.errors import NoPlace, NoTile, Unlike

MOST_COLOUR = 8
MOST_TILES = 16
MOST_SIDE = 6

NORTH = 0
EAST = 1
SOUTH = 2
WEST = 3


def is_whole(thing):
    # Python counts True and False among the ints, the document does not.
    return isinstance(thing, int) and not isinstance(thing, bool)


def is_tuple_of(thing, least, most):
    return isinstance(thing, tuple) and least <= len(thing) <= most


def is_colour(thing):
    return is_whole(thing) and 0 <= thing <= MOST_COLOUR


def is_tile(thing):
    return is_tuple_of(thing, 4, 4) and all([is_colour(part) for part in thing])


def is_set(thing):
    if not is_tuple_of(thing, 1, MOST_TILES):
        return False
    # The tiles come first: only they are sure to be hashable.
    return all([is_tile(part) for part in thing]) and len(set(thing)) == len(thing)


def has_number(tiles, thing):
    return is_whole(thing) and 0 <= thing < len(tiles)


def may_lie(tiles, thing):
    return thing is None or has_number(tiles, thing)


def is_row(tiles, thing):
    return is_tuple_of(thing, 1, MOST_SIDE) and all([may_lie(tiles, part) for part in thing])


def is_floor(tiles, thing):
    if not is_tuple_of(thing, 1, MOST_SIDE):
        return False
    if not all([is_row(tiles, part) for part in thing]):
        return False
    return all([len(row) == len(thing[0]) for row in thing])


def empty(rows, columns):
    return ((None,) * columns,) * rows


def size_of(floor):
    # Sizes below the bounds are not refused, so there may be no first row.
    columns = len(floor[0]) if len(floor) > 0 else 0
    return (len(floor), columns)


def places_of(floor):
    size = size_of(floor)
    places = []
    for row in range(size[0]):
        for column in range(size[1]):
            places.append((row, column))
    return places


def is_row_like(row, thing):
    return is_tuple_of(thing, len(row), len(row))


def is_like(floor, thing):
    if not is_tuple_of(thing, len(floor), len(floor)):
        return False
    return all([is_row_like(row, other) for row, other in zip(floor, thing)])


def refuse_unlike(floor, other):
    if not is_like(floor, other):
        raise Unlike("the sizes are unlike")


def in_rows(numbers, size):
    return tuple([tuple(numbers[row * size[1]:(row + 1) * size[1]]) for row in range(size[0])])


def number_at(floor, place):
    return floor[place[0]][place[1]]


def laid_places(floor):
    return [place for place in places_of(floor) if number_at(floor, place) is not None]


def numbers_on(floor):
    return [number_at(floor, place) for place in laid_places(floor)]


def has_tiles_of(whole, floor):
    return all([number_at(whole, place) == number_at(floor, place) for place in laid_places(floor)])


def is_full(floor):
    return len(laid_places(floor)) == len(places_of(floor))


def has_place(floor, place):
    # Asked first, since Python would take numbers below 0 as counted from the end.
    if not is_tuple_of(place, 2, 2) or not is_whole(place[0]) or not is_whole(place[1]):
        return False
    size = size_of(floor)
    return 0 <= place[0] < size[0] and 0 <= place[1] < size[1]


def refuse_outside(floor, place):
    if not has_place(floor, place):
        raise NoPlace("there is no such place")


def tile_at(floor, place):
    refuse_outside(floor, place)
    return number_at(floor, place)


def with_number(floor, place, number):
    old = floor[place[0]]
    row = old[:place[1]] + (number,) + old[place[1] + 1:]
    return floor[:place[0]] + (row,) + floor[place[0] + 1:]


def with_tile(tiles, floor, place, number):
    refuse_outside(floor, place)
    if not may_lie(tiles, number):
        raise NoTile("the set has no such number")
    return with_number(floor, place, number)


def edge_at(tiles, floor, place, side):
    # None where there is no tile, or no place: nothing clashes with it.
    if not has_place(floor, place) or not has_number(tiles, number_at(floor, place)):
        return None
    return tiles[number_at(floor, place)][side]


def colours_east(tiles, floor, place):
    beside = (place[0], place[1] + 1)
    return (edge_at(tiles, floor, place, EAST), edge_at(tiles, floor, beside, WEST))


def colours_south(tiles, floor, place):
    below = (place[0] + 1, place[1])
    return (edge_at(tiles, floor, place, SOUTH), edge_at(tiles, floor, below, NORTH))


def do_clash(colours):
    return None not in colours and colours[0] != colours[1]


def clashes(tiles, floor):
    found = []
    for place in places_of(floor):
        if do_clash(colours_east(tiles, floor, place)):
            found.append((place, "east"))
        if do_clash(colours_south(tiles, floor, place)):
            found.append((place, "south"))
    return found


def is_right(tiles, floor):
    # A number that the set has not is no tile, so a floor with one is not full.
    if not all([has_number(tiles, number_at(floor, place)) for place in places_of(floor)]):
        return False
    return len(clashes(tiles, floor)) == 0


def edges_along(tiles, floor, places, side):
    return tuple([edge_at(tiles, floor, place, side) for place in places])


def edges_of(tiles, floor):
    size = size_of(floor)
    top = [(0, column) for column in range(size[1])]
    right = [(row, size[1] - 1) for row in range(size[0])]
    bottom = [(size[0] - 1, column) for column in range(size[1])]
    left = [(row, 0) for row in range(size[0])]
    return (
        edges_along(tiles, floor, top, NORTH),
        edges_along(tiles, floor, right, EAST),
        edges_along(tiles, floor, bottom, SOUTH),
        edges_along(tiles, floor, left, WEST),
    )
