"""The fills of a floor: counted, and numbered in their order."""

from floorfits.errors import NoFill
from floorfits.floors import EAST, NORTH, SOUTH, WEST
from floorfits.floors import has_number, is_right, is_tuple_of, is_whole
from floorfits.floors import laid_places, number_at, places_of, size_of


def suits(wanted, colour):
    return wanted is None or wanted == colour


# A fill is laid step by step, row by row. What is laid so far bears on what
# follows only by its seam: the colour wanted at the west of the next place,
# then those wanted at the north of it and of the places behind it, a row's
# worth; None where any will do. Ways to go on are counted once for a seam,
# however many beginnings lead to it.
class Ways:
    def __init__(self, tiles, floor):
        self.tiles = tiles
        self.ground = [number_at(floor, place) for place in places_of(floor)]
        self.columns = size_of(floor)[1]
        self.known = {}

    def first_seam(self):
        return (None,) * (self.columns + 1)

    def seam_behind(self, step, seam, tile):
        # Colours that no later tile meets are left out, so that more seams are alike.
        ends_row = (step + 1) % self.columns == 0
        in_last_row = step + self.columns >= len(self.ground)
        east = None if ends_row else tile[EAST]
        south = None if in_last_row else tile[SOUTH]
        return (east,) + seam[2:] + (south,)

    def numbers_for(self, step):
        laid = self.ground[step]
        if laid is None:
            return list(range(len(self.tiles)))
        return [laid] if has_number(self.tiles, laid) else []

    def choices(self, step, seam):
        found = []
        for number in self.numbers_for(step):
            tile = self.tiles[number]
            if suits(seam[0], tile[WEST]) and suits(seam[1], tile[NORTH]):
                found.append((number, self.seam_behind(step, seam, tile)))
        return found

    def count_from(self, step, seam):
        if step == len(self.ground):
            return 1
        key = (step, seam)
        if key not in self.known:
            self.known[key] = sum([self.count_from(step + 1, choice[1]) for choice in self.choices(step, seam)])
        return self.known[key]

    def count_all(self):
        return self.count_from(0, self.first_seam())

    def numbers_by(self, number):
        numbers = []
        left = number
        seam = self.first_seam()
        for step in range(len(self.ground)):
            for choice in self.choices(step, seam):
                many = self.count_from(step + 1, choice[1])
                if left < many:
                    numbers.append(choice[0])
                    seam = choice[1]
                    break
                left -= many
        return numbers

    def count_ahead(self, numbers):
        ahead = 0
        seam = self.first_seam()
        for step, number in enumerate(numbers):
            for choice in self.choices(step, seam):
                if choice[0] == number:
                    seam = choice[1]
                    break
                ahead += self.count_from(step + 1, choice[1])
        return ahead


def count_fills(tiles, floor):
    return Ways(tiles, floor).count_all()


def is_row_like(row, thing):
    return is_tuple_of(thing, len(row), len(row))


def is_like(floor, thing):
    if not is_tuple_of(thing, len(floor), len(floor)):
        return False
    return all([is_row_like(row, part) for row, part in zip(floor, thing)])


def is_fill(tiles, floor, whole):
    if not is_like(floor, whole) or not is_right(tiles, whole):
        return False
    return all([number_at(whole, place) == number_at(floor, place) for place in laid_places(floor)])


def fill(tiles, floor, number):
    ways = Ways(tiles, floor)
    if not is_whole(number) or not 0 <= number < ways.count_all():
        raise NoFill("the floor has no fill with this number")
    size = size_of(floor)
    numbers = ways.numbers_by(number)
    return tuple([tuple(numbers[row * size[1]:(row + 1) * size[1]]) for row in range(size[0])])


def number_of(tiles, floor, whole):
    if not is_fill(tiles, floor, whole):
        raise NoFill("this is no fill of the floor")
    return Ways(tiles, floor).count_ahead([number_at(whole, place) for place in places_of(whole)])
