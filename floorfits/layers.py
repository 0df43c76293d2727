"""Floors over one another, and the areas of a floor."""

from floorfits.floors import has_place, laid_places, number_at, places_of
from floorfits.floors import refuse_outside, refuse_unlike, with_tile


def row_over(row, other):
    return tuple([low if high is None else high for low, high in zip(row, other)])


def over(one, other):
    refuse_unlike(one, other)
    return tuple([row_over(row, high) for row, high in zip(one, other)])


def seen(layers):
    whole = layers[0]
    for layer in layers[1:]:
        whole = over(whole, layer)
    return whole


def row_under(row, other):
    return tuple([low if high is None else None for low, high in zip(row, other)])


def under(one, other):
    refuse_unlike(one, other)
    return tuple([row_under(row, high) for row, high in zip(one, other)])


def under_all(floor, layers):
    left = floor
    for layer in layers:
        left = under(left, layer)
    return left


def only_seen(layers):
    return [under_all(layer, layers[index + 1:]) for index, layer in enumerate(layers)]


def hidden(layers):
    return [len(laid_places(layer)) - len(laid_places(left)) for layer, left in zip(layers, only_seen(layers))]


def neighbours(place):
    row = place[0]
    column = place[1]
    return [(row - 1, column), (row, column - 1), (row, column + 1), (row + 1, column)]


def alike_beside(floor, place):
    number = number_at(floor, place)
    return [near for near in neighbours(place) if has_place(floor, near) and number_at(floor, near) == number]


def area(floor, place):
    refuse_outside(floor, place)
    found = {place: True}
    waiting = [place]
    while len(waiting) > 0:
        here = waiting.pop()
        for near in alike_beside(floor, here):
            if near not in found:
                found[near] = True
                waiting.append(near)
    return sorted(found)


def areas(floor):
    every = [area(floor, place) for place in places_of(floor)]
    # An area is found from each of its places, and told at its first one alone.
    return [found for found, place in zip(every, places_of(floor)) if found[0] == place]


def poured(tiles, floor, place, number):
    whole = floor
    for each in area(floor, place):
        whole = with_tile(tiles, whole, each, number)
    return whole
