"""The fills of a floor: counted, and numbered in their order."""

from floorfits.errors import NoFill
from floorfits.floors import EAST, NORTH, SOUTH, WEST
from floorfits.floors import has_number, has_tiles_of, in_rows, is_like, is_right, is_whole
from floorfits.floors import number_at, places_of, size_of


def suits(wanted, colour):
    return wanted is None or wanted == colour


# A fill is laid step by step, row by row. What is laid so far bears on what
# follows only by its seam: the colour wanted at the west of the next place,
# then those wanted at the north of it and of the places behind it, a row's
# worth, then the one wanted at the east of the row's last place, where floors
# are joined round; None where any will do. Ways to go on are counted once for
# a seam, however many beginnings lead to it.
class Ways:
    def __init__(self, tiles, floor, is_round=False):
        self.tiles = tiles
        self.ground = [number_at(floor, place) for place in places_of(floor)]
        self.size = size_of(floor)
        self.is_round = is_round
        self.known = {}

    def first_seam(self):
        return (None,) * (self.size[1] + 2)

    def ends_row(self, step):
        return (step + 1) % self.size[1] == 0

    def colour_round(self, step, seam, tile):
        # In a row of one place a tile meets itself, so the first one is asked ahead of the seam.
        return tile[WEST] if step % self.size[1] == 0 else seam[-1]

    def seam_behind(self, step, seam, tile):
        # Colours that no later tile meets are left out, so that more seams are alike.
        is_last = self.ends_row(step)
        in_last_row = step + self.size[1] >= len(self.ground)
        east = None if is_last else tile[EAST]
        south = None if in_last_row else tile[SOUTH]
        around = self.colour_round(step, seam, tile) if self.is_round and not is_last else None
        return (east,) + seam[2:-1] + (south, around)

    def numbers_for(self, step):
        laid = self.ground[step]
        if laid is None:
            return list(range(len(self.tiles)))
        return [laid] if has_number(self.tiles, laid) else []

    def fits_round(self, step, seam, tile):
        if not self.is_round or not self.ends_row(step):
            return True
        return tile[EAST] == self.colour_round(step, seam, tile)

    def fits(self, step, seam, tile):
        if not suits(seam[0], tile[WEST]) or not suits(seam[1], tile[NORTH]):
            return False
        return self.fits_round(step, seam, tile)

    def choices(self, step, seam):
        found = []
        for number in self.numbers_for(step):
            tile = self.tiles[number]
            if self.fits(step, seam, tile):
                found.append((number, self.seam_behind(step, seam, tile)))
        return found

    def count_from(self, step, seam):
        if step == len(self.ground):
            return 1
        key = (step, seam)
        if key not in self.known:
            self.known[key] = sum([self.count_from(step + 1, choice[1]) for choice in self.choices(step, seam)])
        return self.known[key]

    def count_all(self):
        return self.count_from(0, self.first_seam())

    def numbers_by(self, number):
        numbers = []
        left = number
        seam = self.first_seam()
        for step in range(len(self.ground)):
            for choice in self.choices(step, seam):
                many = self.count_from(step + 1, choice[1])
                if left < many:
                    numbers.append(choice[0])
                    seam = choice[1]
                    break
                left -= many
        return numbers

    def whole_by(self, number):
        if not 0 <= number < self.count_all():
            raise NoFill("the floor has no fill with this number")
        return in_rows(self.numbers_by(number), self.size)

    def count_ahead(self, numbers):
        ahead = 0
        seam = self.first_seam()
        for step, number in enumerate(numbers):
            for choice in self.choices(step, seam):
                if choice[0] == number:
                    seam = choice[1]
                    break
                ahead += self.count_from(step + 1, choice[1])
        return ahead


def count_fills(tiles, floor):
    return Ways(tiles, floor).count_all()


def is_fill(tiles, floor, whole):
    if not is_like(floor, whole) or not is_right(tiles, whole):
        return False
    return has_tiles_of(whole, floor)


def fill(tiles, floor, number):
    if not is_whole(number):
        raise NoFill("this is no number of a fill")
    return Ways(tiles, floor).whole_by(number)


def number_of(tiles, floor, whole):
    if not is_fill(tiles, floor, whole):
        raise NoFill("this is no fill of the floor")
    return Ways(tiles, floor).count_ahead([number_at(whole, place) for place in places_of(whole)])
