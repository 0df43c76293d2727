"""What can still stand where, what must, and a least part that can't be filled."""

from floorfits.counting import count_fills, fill
from floorfits.floors import laid_places, number_at, places_of, tile_at, with_tile


def has_fill(tiles, floor):
    return count_fills(tiles, floor) > 0


def counts_at(tiles, floor, place):
    laid = tile_at(floor, place)
    counts = []
    for number in range(len(tiles)):
        # Laying another number than stands there would count the fills of another floor.
        is_kept = laid is None or laid == number
        counts.append(count_fills(tiles, with_tile(tiles, floor, place, number)) if is_kept else 0)
    return counts


def may_stand(tiles, floor, place):
    return [number for number, many in enumerate(counts_at(tiles, floor, place)) if many > 0]


def bare_places(floor):
    return [place for place in places_of(floor) if number_at(floor, place) is None]


def forced(tiles, floor):
    many = count_fills(tiles, floor)
    if many == 0:
        return []
    # What all fills have, the first one has.
    first = fill(tiles, floor, 0)
    found = []
    for place in bare_places(floor):
        number = number_at(first, place)
        if count_fills(tiles, with_tile(tiles, floor, place, number)) == many:
            found.append((place, number))
    return found


def with_forced(tiles, floor):
    whole = floor
    for place, number in forced(tiles, floor):
        whole = with_tile(tiles, whole, place, number)
    return whole


def without(tiles, floor, place):
    return with_tile(tiles, floor, place, None)


def stuck(tiles, floor):
    if has_fill(tiles, floor):
        return None
    left = floor
    # One look at each tile is enough: a fill that comes without it stays one, whatever else is taken away later.
    for place in laid_places(floor):
        less = without(tiles, left, place)
        if not has_fill(tiles, less):
            left = less
    return left


def is_stuck(tiles, floor):
    if has_fill(tiles, floor):
        return False
    return all([has_fill(tiles, without(tiles, floor, place)) for place in laid_places(floor)])


def differing(one, other):
    return [place for place in places_of(one) if number_at(one, place) != number_at(other, place)]
