"""Floors made right by changes of the least weight."""

from floorfits.counting import Ways
from floorfits.errors import NoFill
from floorfits.floors import empty, in_rows, number_at, places_of, refuse_unlike, size_of


def cost_at(laid, weight, number):
    return 0 if laid is None or laid == number else weight


def cost_of(floor, weights, whole):
    refuse_unlike(floor, weights)
    refuse_unlike(floor, whole)
    costs = []
    for place in places_of(floor):
        costs.append(cost_at(number_at(floor, place), number_at(weights, place), number_at(whole, place)))
    return sum(costs)


# All right floors of the size are gone through as the fills of one without
# tiles are. For each step and seam the least cost of what follows is kept, and
# how many ways have it; None where there is no way on.
class Mends:
    def __init__(self, tiles, floor, weights):
        self.size = size_of(floor)
        self.ways = Ways(tiles, empty(self.size[0], self.size[1]))
        self.laid = [number_at(floor, place) for place in places_of(floor)]
        self.weights = [number_at(weights, place) for place in places_of(floor)]
        self.known = {}

    def offers(self, step, seam):
        found = []
        for number, behind in self.ways.choices(step, seam):
            rest = self.least_from(step + 1, behind)
            if rest is not None:
                cost = cost_at(self.laid[step], self.weights[step], number) + rest[0]
                found.append((cost, rest[1], number, behind))
        return found

    def least_by_offers(self, step, seam):
        offers = self.offers(step, seam)
        if len(offers) == 0:
            return None
        least = min([offer[0] for offer in offers])
        return (least, sum([offer[1] for offer in offers if offer[0] == least]))

    def least_from(self, step, seam):
        if step == len(self.laid):
            return (0, 1)
        key = (step, seam)
        if key not in self.known:
            self.known[key] = self.least_by_offers(step, seam)
        return self.known[key]

    def least_all(self):
        return self.least_from(0, self.ways.first_seam())

    def least_whole(self):
        numbers = []
        seam = self.ways.first_seam()
        for step in range(len(self.laid)):
            least = self.least_from(step, seam)[0]
            chosen = [offer for offer in self.offers(step, seam) if offer[0] == least][0]
            numbers.append(chosen[2])
            seam = chosen[3]
        return in_rows(numbers, self.size)


def least_cost(tiles, floor, weights):
    refuse_unlike(floor, weights)
    return Mends(tiles, floor, weights).least_all()


def mended(tiles, floor, weights):
    refuse_unlike(floor, weights)
    mends = Mends(tiles, floor, weights)
    if mends.least_all() is None:
        raise NoFill("there is no right floor of this size")
    return mends.least_whole()
