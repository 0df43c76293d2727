"""How often what stands on a floor."""

from floorfits.floors import colours_east, colours_south, has_number, has_tiles_of, is_like
from floorfits.floors import numbers_on, places_of, size_of
from floorfits.turning import part


def counted(things):
    return [(thing, things.count(thing)) for thing in sorted(set(things))]


def tally(floor):
    return counted(numbers_on(floor))


def colours_on(tiles, floor):
    colours = []
    for number in numbers_on(floor):
        if has_number(tiles, number):
            colours.extend(tiles[number])
    return counted(colours)


def meetings(tiles, floor):
    found = []
    for place in places_of(floor):
        found.append(colours_east(tiles, floor, place))
        found.append(colours_south(tiles, floor, place))
    return [colours for colours in found if None not in colours]


def seams(tiles, floor):
    met = meetings(tiles, floor)
    alike = [colours for colours in met if colours[0] == colours[1]]
    return (len(alike), len(met) - len(alike))


def like_rows(floor):
    found = []
    for first in range(len(floor)):
        for second in range(first + 1, len(floor)):
            if floor[first] == floor[second]:
                found.append((first, second))
    return found


def is_window(floor, piece, place):
    size = size_of(piece)
    seen = part(floor, place[0], place[1], size[0], size[1])
    # A part ends where the floor does, so one that is smaller than the piece shows that the floor does not go so far.
    return is_like(piece, seen) and has_tiles_of(seen, piece)


def windows(floor, piece):
    return [place for place in places_of(floor) if is_window(floor, piece, place)]
