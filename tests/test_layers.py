"""Layers and areas: 8.1 to 8.3, 0.2 (g), and 0.3 as far as it speaks of them."""

import copy
import unittest
from itertools import product
from random import Random

from floorfits.errors import NoPlace, NoTile, Unlike
from floorfits.floors import is_floor, places_of
from floorfits.layers import area, areas, hidden, only_seen, over, poured, seen
from tests.plain import (
    FREE, LONE, PAIR, SIXTEEN, STAIRS, bare, changed, laid, outside, refusal, sixteen, some_floor,
)

LOW = ((0, 1, None), (2, None, None))
HIGH = ((3, None, None), (None, 4, None))
TOP = ((None, 2, None), (None, 1, 0))


def some_layers(seed, tiles=FREE, most=4):
    chance = Random(seed)
    for rows, columns in SIXTEEN:
        for many in range(1, most + 1):
            blank = chance.choice((0.2, 0.5, 0.8))
            yield [some_floor(chance, tiles, rows, columns, blank) for _ in range(many)]


def plain_top(layers, r, c):
    """The index of the layer whose tile is seen at a place, or None."""
    return max((index for index, layer in enumerate(layers) if layer[r][c] is not None), default=None)


def plain_seen(layers):
    rows, columns = len(layers[0]), len(layers[0][0])
    tops = [[plain_top(layers, r, c) for c in range(columns)] for r in range(rows)]
    return tuple(
        tuple(None if tops[r][c] is None else layers[tops[r][c]][r][c] for c in range(columns))
        for r in range(rows)
    )


def plain_only(layers):
    rows, columns = len(layers[0]), len(layers[0][0])
    return [
        tuple(
            tuple(layer[r][c] if plain_top(layers, r, c) == index else None for c in range(columns))
            for r in range(rows)
        )
        for index, layer in enumerate(layers)
    ]


def plain_hidden(layers):
    return [sum(plain_top(layers, r, c) != index for r, c in laid(layer)) for index, layer in enumerate(layers)]


def plain_area(floor, place):
    """All that is joined to the place, by going on until nothing more is."""
    found = {place}
    while True:
        more = {
            (r, c)
            for r, c in product(range(len(floor)), range(len(floor[0])))
            for row, column in found
            if abs(r - row) + abs(c - column) == 1 and floor[r][c] == floor[row][column]
        }
        if more <= found:
            return sorted(found)
        found |= more


def some_grounds(seed, numbers=2, each=3):
    """Floors of few numbers, so that areas are large."""
    chance = Random(seed)
    for rows, columns in SIXTEEN:
        for _ in range(each):
            yield some_floor(chance, FREE[:numbers], rows, columns, chance.choice((0.1, 0.4, 0.7)))


class Over(unittest.TestCase):
    def test_by_hand(self):
        self.assertEqual(over(LOW, HIGH), ((3, 1, None), (2, 4, None)))
        self.assertEqual(over(HIGH, LOW), ((0, 1, None), (2, 4, None)))
        self.assertEqual(over(((None,),), ((None,),)), ((None,),))
        self.assertEqual(over(((0,),), ((None,),)), ((0,),))
        self.assertEqual(over(((None,),), ((0,),)), ((0,),))
        self.assertEqual(over(((1,),), ((0,),)), ((0,),))

    def test_against_plain_words(self):
        for layers in some_layers(801):
            for one, other in zip(layers, layers[1:]):
                told = over(one, other)
                self.assertEqual(told, plain_seen([one, other]))
                self.assertIs(is_floor(FREE, told), True)

    def test_bare_layers(self):
        for layers in some_layers(802, most=1):
            floor = layers[0]
            nothing = bare(len(floor), len(floor[0]))
            self.assertEqual(over(floor, nothing), floor)
            self.assertEqual(over(nothing, floor), floor)
            self.assertEqual(over(floor, floor), floor)

    def test_in_two_steps_either_way(self):
        for layers in some_layers(803):
            for one, other, third in zip(layers, layers[1:], layers[2:]):
                told = over(over(one, other), third)
                self.assertEqual(told, over(one, over(other, third)))
                self.assertEqual(told, plain_seen([one, other, third]))

    def test_unlike_sizes(self):
        for size, other in product(SIXTEEN, repeat=2):
            refused = refusal(over, bare(*size), bare(*other))
            self.assertIs(refused, None if size == other else Unlike)
        self.assertIs(refusal(over, ((0, 1),), ((0,), (1,))), Unlike)
        self.assertIs(refusal(over, ((0, 1),), ((0, 1), (0, 1))), Unlike)
        self.assertIs(refusal(over, ((0, 1), (0, 1)), ((0, 1),)), Unlike)
        self.assertIs(refusal(over, ((0, 1),), ((0,),)), Unlike)
        self.assertIs(refusal(over, ((0,),), ((0, 1),)), Unlike)


class Seen(unittest.TestCase):
    def test_by_hand(self):
        self.assertEqual(seen([LOW]), LOW)
        self.assertEqual(seen([LOW, HIGH]), ((3, 1, None), (2, 4, None)))
        self.assertEqual(seen([LOW, HIGH, TOP]), ((3, 2, None), (2, 1, 0)))
        self.assertEqual(hidden([LOW]), [0])
        self.assertEqual(hidden([LOW, HIGH]), [1, 0])
        self.assertEqual(hidden([LOW, HIGH, TOP]), [2, 1, 0])
        self.assertEqual(only_seen([LOW]), [LOW])
        self.assertEqual(only_seen([LOW, HIGH]), [((None, 1, None), (2, None, None)), HIGH])
        self.assertEqual(
            only_seen([LOW, HIGH, TOP]), [((None, None, None), (2, None, None)), ((3, None, None), (None,) * 3), TOP],
        )

    def test_like_tiles_hide_each_other_too(self):
        self.assertEqual(hidden([((0, 0),), ((0, None),)]), [1, 0])
        self.assertEqual(only_seen([((0, 0),), ((0, None),)]), [((None, 0),), ((0, None),)])

    def test_a_tile_is_hidden_by_any_layer_over_it(self):
        layers = [((0, 1),), ((2, None),), ((None, None),), ((None, 3),), ((None, None),)]
        self.assertEqual(hidden(layers), [2, 0, 0, 0, 0])
        self.assertEqual(seen(layers), ((2, 3),))

    def test_a_tile_hidden_twice_is_one_tile(self):
        self.assertEqual(hidden([((0,),), ((1,),), ((2,),)]), [1, 1, 0])

    def test_against_a_plain_look(self):
        for layers in some_layers(804):
            self.assertEqual(seen(layers), plain_seen(layers))
            self.assertEqual(hidden(layers), plain_hidden(layers))
            self.assertEqual(only_seen(layers), plain_only(layers))

    def test_the_sixteen(self):
        for layers in some_layers(805, sixteen(), 3):
            self.assertEqual(seen(layers), plain_seen(layers))
            self.assertEqual(hidden(layers), plain_hidden(layers))
            self.assertEqual(only_seen(layers), plain_only(layers))

    def test_what_is_seen_does_not_hang_on_what_is_hidden(self):
        for layers in some_layers(806):
            left = only_seen(layers)
            self.assertEqual(seen(left), seen(layers))
            self.assertEqual(hidden(left), [0] * len(layers))
            self.assertEqual(only_seen(left), left)
            many = [len(laid(layer)) for layer in layers]
            self.assertEqual([sum(two) for two in zip(hidden(layers), [len(laid(each)) for each in left])], many)
            self.assertEqual(sum(len(laid(each)) for each in left), len(laid(seen(layers))))

    def test_it_does_not_hang_on_how_they_are_put_together(self):
        for layers in some_layers(807):
            for cut in range(1, len(layers)):
                self.assertEqual(over(seen(layers[:cut]), seen(layers[cut:])), seen(layers))
                self.assertEqual(seen([seen(layers[:cut])] + layers[cut:]), seen(layers))
                self.assertEqual(seen(layers[:cut] + [seen(layers[cut:])]), seen(layers))

    def test_unlike_sizes(self):
        for layers in ([bare(1, 2), bare(2, 1)], [bare(2, 2), bare(2, 2), bare(2, 1)], [bare(1, 1), bare(2, 2)]):
            for tell in (seen, hidden, only_seen):
                self.assertIs(refusal(tell, layers), Unlike)

    def test_kinds(self):
        told = only_seen([LOW, HIGH])
        self.assertIsInstance(told, list)
        self.assertIsInstance(hidden([LOW, HIGH]), list)
        for layer in told:
            self.assertIs(is_floor(FREE, layer), True)
        self.assertEqual([isinstance(many, bool) for many in hidden([LOW, HIGH])], [False, False])


class Areas(unittest.TestCase):
    def test_by_hand(self):
        floor = ((0, 0, 1), (1, 0, None), (1, 1, None))
        self.assertEqual(area(floor, (0, 0)), [(0, 0), (0, 1), (1, 1)])
        self.assertEqual(area(floor, (1, 1)), [(0, 0), (0, 1), (1, 1)])
        self.assertEqual(area(floor, (0, 2)), [(0, 2)])
        self.assertEqual(area(floor, (2, 1)), [(1, 0), (2, 0), (2, 1)])
        self.assertEqual(area(floor, (2, 2)), [(1, 2), (2, 2)])
        self.assertEqual(areas(floor), [
            [(0, 0), (0, 1), (1, 1)], [(0, 2)], [(1, 0), (2, 0), (2, 1)], [(1, 2), (2, 2)],
        ])

    def test_one_place(self):
        for number in (None, 0, 3):
            self.assertEqual(area(((number,),), (0, 0)), [(0, 0)])
            self.assertEqual(areas(((number,),)), [[(0, 0)]])

    def test_round_corners(self):
        snake = ((0, 0, 0, 0), (1, 1, 1, 0), (0, 0, 0, 0), (0, 1, 1, 1))
        wanted = [(0, 0), (0, 1), (0, 2), (0, 3), (1, 3), (2, 0), (2, 1), (2, 2), (2, 3), (3, 0)]
        for place in wanted:
            self.assertEqual(area(snake, place), wanted)
        self.assertEqual(areas(snake), [wanted, [(1, 0), (1, 1), (1, 2)], [(3, 1), (3, 2), (3, 3)]])

    def test_up_and_to_the_west(self):
        # From its first place the area is come to only by way of places south and west of others.
        hook = ((1, 1, 0), (0, 1, 0), (0, 0, 0))
        wanted = [(0, 2), (1, 0), (1, 2), (2, 0), (2, 1), (2, 2)]
        for place in wanted:
            self.assertEqual(area(hook, place), wanted)

    def test_touching_at_a_corner_only(self):
        self.assertEqual(area(((0, 1), (1, 0)), (0, 0)), [(0, 0)])
        self.assertEqual(areas(((0, 1), (1, 0))), [[(0, 0)], [(0, 1)], [(1, 0)], [(1, 1)]])
        self.assertEqual(areas(((0, None), (None, 0))), [[(0, 0)], [(0, 1)], [(1, 0)], [(1, 1)]])

    def test_with_a_hole(self):
        ring = ((2, 2, 2), (2, 0, 2), (2, 2, 2))
        around = [place for place in places_of(ring) if place != (1, 1)]
        self.assertEqual(areas(ring), [around, [(1, 1)]])
        self.assertEqual(areas(((None, None, None), (None, 0, None), (None, None, None))), [around, [(1, 1)]])
        self.assertEqual(area(((2, 2, 2), (2, 2, 2), (2, 2, 2)), (1, 1)), places_of(ring))

    def test_it_does_not_go_round_the_sides(self):
        self.assertEqual(areas(((0, 1, 0),)), [[(0, 0)], [(0, 1)], [(0, 2)]])
        self.assertEqual(areas(((0,), (1,), (0,))), [[(0, 0)], [(1, 0)], [(2, 0)]])
        self.assertEqual(areas(((0, 1), (1, 1), (0, 0))), [[(0, 0)], [(0, 1), (1, 0), (1, 1)], [(2, 0), (2, 1)]])

    def test_no_tile_is_not_the_number_0(self):
        self.assertEqual(areas(((0, None, 0),)), [[(0, 0)], [(0, 1)], [(0, 2)]])
        self.assertEqual(areas(((None, 0), (None, 0))), [[(0, 0), (1, 0)], [(0, 1), (1, 1)]])

    def test_against_a_plain_trial(self):
        for numbers in (1, 2, 3):
            for floor in some_grounds(811, numbers):
                for place in places_of(floor):
                    told = area(floor, place)
                    self.assertEqual(told, plain_area(floor, place))
                    self.assertIsInstance(told, list)

    def test_areas_part_a_floor(self):
        for numbers in (1, 2, 5):
            for floor in some_grounds(812, numbers):
                told = areas(floor)
                self.assertEqual(sorted(sum(told, [])), places_of(floor))
                self.assertEqual([each[0] for each in told], sorted(each[0] for each in told))
                for each in told:
                    self.assertEqual(each, plain_area(floor, each[-1]))

    def test_the_sixteen_and_sixteen_places(self):
        chance = Random(813)
        for size in ((4, 4), (2, 6), (6, 2), (3, 5), (5, 3)):
            floor = some_floor(chance, sixteen()[:3], *size, 0.2)
            for place in places_of(floor):
                self.assertEqual(area(floor, place), plain_area(floor, place))
        self.assertEqual(area(((15, 15), (0, 15)), (1, 1)), [(0, 0), (0, 1), (1, 1)])

    def test_places_outside(self):
        for floor in some_grounds(814, 2, 1):
            for place in outside(floor):
                self.assertIs(refusal(area, floor, place), NoPlace)


class Poured(unittest.TestCase):
    def test_by_hand(self):
        floor = ((0, 0, 1), (1, 0, None), (1, 1, None))
        self.assertEqual(poured(PAIR, floor, (0, 0), 1), ((1, 1, 1), (1, 1, None), (1, 1, None)))
        self.assertEqual(poured(PAIR, floor, (2, 0), None), ((0, 0, 1), (None, 0, None), (None, None, None)))
        self.assertEqual(poured(PAIR, floor, (1, 2), 0), ((0, 0, 1), (1, 0, 0), (1, 1, 0)))
        self.assertEqual(poured(PAIR, floor, (0, 2), 0), ((0, 0, 0), (1, 0, None), (1, 1, None)))

    def test_the_number_that_is_there(self):
        for floor in some_grounds(821, 2, 1):
            for r, c in places_of(floor):
                self.assertEqual(poured(PAIR, floor, (r, c), floor[r][c]), floor)

    def test_against_a_plain_trial(self):
        for floor in some_grounds(822, 3, 1):
            for place in places_of(floor):
                for number in (None, 0, 1, 2, 4):
                    wanted = floor
                    for each in plain_area(floor, place):
                        wanted = changed(wanted, each, number)
                    told = poured(FREE, floor, place, number)
                    self.assertEqual(told, wanted)
                    self.assertIs(is_floor(FREE, told), True)

    def test_clashes_are_not_refused(self):
        self.assertEqual(poured(LONE, bare(2, 2), (1, 1), 0), ((0, 0), (0, 0)))
        self.assertEqual(poured(STAIRS, bare(4, 4), (0, 0), 2), ((2,) * 4,) * 4)

    def test_the_sixteen(self):
        self.assertEqual(poured(sixteen(), bare(4, 4), (3, 3), 15), ((15,) * 4,) * 4)
        self.assertIs(refusal(poured, sixteen(), bare(4, 4), (3, 3), 16), NoTile)

    def test_places_outside(self):
        for floor in some_grounds(823, 2, 1):
            for place in outside(floor):
                for number in (None, 0, 1):
                    self.assertIs(refusal(poured, PAIR, floor, place, number), NoPlace)

    def test_numbers_that_the_set_has_not(self):
        for floor in (((0, 0), (None, 1)), ((None,),), ((1,),)):
            for place in places_of(floor):
                for number in (2, 3, -1, -2, 99, True, False, "0", (), [], (0,), "", [0]):
                    self.assertIs(refusal(poured, PAIR, floor, place, number), NoTile)

    def test_no_place_is_due_ahead_of_no_tile(self):
        floor = ((0, 0), (None, 1))
        for place in outside(floor):
            for number in (2, -1, True, False, "0"):
                self.assertIs(refusal(poured, PAIR, floor, place, number), NoPlace)


class Kept(unittest.TestCase):
    def test_told_lists_are_new_ones(self):
        floor = ((0, 0), (None, 1))
        for tell in (
            lambda: hidden([LOW, HIGH]), lambda: only_seen([LOW, HIGH]), lambda: area(floor, (0, 0)),
            lambda: areas(floor),
        ):
            first = tell()
            before = copy.deepcopy(first)
            first.append("more")
            first[0] = None
            self.assertEqual(tell(), before)
            first.clear()
            self.assertEqual(tell(), before)

    def test_lists_within_them_too(self):
        floor = ((0, 0), (None, 1))
        before = areas(floor)
        told = areas(floor)
        for each in told:
            each.append((9, 9))
            each[0] = None
        self.assertEqual(areas(floor), before)
        self.assertEqual(before, [[(0, 0), (0, 1)], [(1, 0)], [(1, 1)]])

    def test_a_told_list_is_not_the_one_handed_in(self):
        layers = [LOW]
        told = only_seen(layers)
        told.append(HIGH)
        self.assertEqual(layers, [LOW])
        layers.append(HIGH)
        self.assertEqual(told, [LOW, HIGH])
        self.assertIsNot(told, layers)

    def test_what_is_handed_in_is_as_it_was(self):
        for layers in some_layers(831):
            before = copy.deepcopy(layers)
            for tell in (seen, hidden, only_seen):
                tell(layers)
                self.assertEqual(layers, before)
            for place in places_of(layers[0]):
                poured(FREE, layers[0], place, 1)
                area(layers[0], place)
            areas(layers[0])
            over(layers[0], layers[-1])
            self.assertEqual(layers, before)
        layers = [bare(1, 2), bare(2, 1)]
        for tell in (seen, hidden, only_seen):
            self.assertIs(refusal(tell, layers), Unlike)
        self.assertEqual(layers, [bare(1, 2), bare(2, 1)])


if __name__ == "__main__":
    unittest.main()
