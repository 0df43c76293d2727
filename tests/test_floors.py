"""Sets and floors: 1.1 to 1.4, 0.2 (a), and 0.3 as far as it speaks of them."""

import copy
import unittest
from itertools import product

from floorfits.errors import NoPlace, NoTile
from floorfits.floors import (
    clashes, edges_of, empty, is_floor, is_full, is_right, is_set, laid_places,
    places_of, size_of, tile_at, with_tile,
)
from tests.plain import LONE, ODD, PAIR, all_floors, outside, plain_clashes, sixteen, some_pairs, spoilt

TILE = (0, 3, 8, 1)
SOME = ((0, 1, 2, 3), (3, 2, 1, 0), TILE)
FLOOR = ((0, None, 2), (None, 1, 1))
SIZES = ((1, 1), (1, 4), (4, 1), (2, 2), (2, 3), (3, 2), (4, 4), (6, 2), (2, 6), (3, 5))


def many_tiles(many):
    return tuple(list(product(range(9), repeat=4))[:many])


class AreSets(unittest.TestCase):
    def assertBool(self, told, wanted):
        self.assertIs(told, wanted)

    def test_right_sets(self):
        for tiles in (LONE, PAIR, SOME, sixteen(), ((8, 8, 8, 8),), ((0, 0, 0, 0), (0, 0, 0, 1))):
            self.assertBool(is_set(tiles), True)

    def test_one_to_sixteen_tiles(self):
        for many in range(20):
            self.assertBool(is_set(many_tiles(many)), 1 <= many <= 16)

    def test_colours_from_0_to_8(self):
        for edge in range(4):
            for colour in range(-3, 13):
                self.assertBool(is_set(SOME[:2] + (spoilt(TILE, edge, colour),)), 0 <= colour <= 8)

    def test_no_tile_twice(self):
        self.assertBool(is_set((TILE, TILE)), False)
        self.assertBool(is_set(SOME + (SOME[0],)), False)
        self.assertBool(is_set(many_tiles(15) + (many_tiles(15)[7],)), False)
        self.assertBool(is_set(many_tiles(16) + (TILE,)), False)

    def test_a_colour_spoilt(self):
        for index, edge in product(range(3), range(4)):
            for thing in ODD:
                if thing in (0, 1) and not isinstance(thing, bool):
                    continue
                tiles = spoilt(SOME, index, spoilt(SOME[index], edge, thing))
                self.assertBool(is_set(tiles), False)

    def test_truths_are_no_colours(self):
        self.assertBool(is_set(((True, 0, 0, 0),)), False)
        self.assertBool(is_set(((0, 0, 0, False),)), False)
        # Equal by Python's order to tiles that are right, and yet none.
        self.assertBool(is_set(((1, 0, 0, 0), (0, 1, 0, False))), False)

    def test_a_tile_spoilt(self):
        for index in range(3):
            for thing in ODD + ((0, 1, 2), (0, 1, 2, 3, 4), [0, 1, 2, 4], list(TILE), 5, (TILE,) * 4):
                self.assertBool(is_set(spoilt(SOME, index, thing)), False)

    def test_the_whole_spoilt(self):
        for thing in ODD + (list(SOME), [list(tile) for tile in SOME], TILE, (SOME,), (SOME, SOME)):
            self.assertBool(is_set(thing), False)


class AreFloors(unittest.TestCase):
    def assertBool(self, told, wanted):
        self.assertIs(told, wanted)

    def test_right_floors(self):
        for thing in (FLOOR, ((0,),), ((None,),), ((2, 1, 0),), ((0,), (None,), (2,))):
            self.assertBool(is_floor(SOME, thing), True)
        self.assertBool(is_floor(sixteen(), ((15, 0), (None, 7))), True)

    def test_one_to_six_rows_and_columns(self):
        for rows, columns in product(range(9), range(9)):
            wanted = 1 <= rows <= 6 and 1 <= columns <= 6
            for number in (None, 1):
                self.assertBool(is_floor(SOME, ((number,) * columns,) * rows), wanted)

    def test_numbers_of_the_set(self):
        for tiles in (LONE, PAIR, SOME, sixteen()):
            for number in range(-20, 20):
                wanted = 0 <= number < len(tiles)
                self.assertBool(is_floor(tiles, ((number,),)), wanted)
                self.assertBool(is_floor(tiles, ((None, 0), (0, number))), wanted)

    def test_a_number_spoilt(self):
        for row, column in product(range(2), range(3)):
            for thing in ODD:
                if thing is None or (thing in (0, 1) and not isinstance(thing, bool)):
                    continue
                floor = spoilt(FLOOR, row, spoilt(FLOOR[row], column, thing))
                self.assertBool(is_floor(SOME, floor), False)

    def test_truths_are_no_numbers(self):
        for thing in (((True,),), ((0, 1), (False, None)), ((0, True),)):
            self.assertBool(is_floor(SOME, thing), False)

    def test_a_row_spoilt(self):
        for row in range(2):
            for thing in ODD + ((0, 1), (0, 1, 2, 0), [0, 1, 2], [None, None, None], "012"):
                self.assertBool(is_floor(SOME, spoilt(FLOOR, row, thing)), False)

    def test_rows_of_unlike_lengths(self):
        for thing in (((0,), (0, 1)), ((0, 1), (0,)), ((0, 1), (1, 2), (0,)), ((0,), ()), ((), (0,))):
            self.assertBool(is_floor(SOME, thing), False)

    def test_the_whole_spoilt(self):
        for thing in ODD:
            if thing != (None,) or not isinstance(thing, tuple):
                self.assertBool(is_floor(LONE, thing), False)
        for thing in ((None,), (0, 1, 2), list(FLOOR), [list(row) for row in FLOOR], (FLOOR,), (FLOOR, FLOOR)):
            self.assertBool(is_floor(SOME, thing), False)


class Places(unittest.TestCase):
    def test_empty(self):
        self.assertEqual(empty(1, 1), ((None,),))
        self.assertEqual(empty(2, 3), ((None, None, None), (None, None, None)))
        for rows, columns in product(range(1, 7), repeat=2):
            floor = empty(rows, columns)
            self.assertTrue(is_floor(LONE, floor))
            self.assertEqual(size_of(floor), (rows, columns))
            self.assertEqual(laid_places(floor), [])
            self.assertIs(is_full(floor), False)

    def test_sizes_beyond_the_bounds_are_not_refused(self):
        self.assertEqual(size_of(empty(7, 8)), (7, 8))
        self.assertEqual(len(places_of(empty(8, 7))), 56)
        self.assertEqual(empty(0, 2), ())
        self.assertEqual(empty(2, 0), ((), ()))
        self.assertEqual(places_of(empty(0, 2)), [])
        self.assertEqual(size_of(()), (0, 0))

    def test_size_of(self):
        self.assertEqual(size_of(FLOOR), (2, 3))
        self.assertEqual(size_of(((0, 1, 2, 0),)), (1, 4))
        self.assertIsInstance(size_of(FLOOR), tuple)

    def test_places_of(self):
        self.assertEqual(places_of(FLOOR), [(0, 0), (0, 1), (0, 2), (1, 0), (1, 1), (1, 2)])
        self.assertEqual(places_of(((0, 1),)), [(0, 0), (0, 1)])
        self.assertEqual(places_of(((0,), (1,))), [(0, 0), (1, 0)])

    def test_laid_places(self):
        self.assertEqual(laid_places(FLOOR), [(0, 0), (0, 2), (1, 1), (1, 2)])
        self.assertEqual(laid_places(((0, 0), (0, 0))), places_of(empty(2, 2)))

    def test_is_full(self):
        self.assertIs(is_full(FLOOR), False)
        self.assertIs(is_full(((0,),)), True)
        self.assertIs(is_full(((0, 0), (0, 0))), True)
        for row, column in product(range(2), repeat=2):
            floor = with_tile(LONE, ((0, 0), (0, 0)), (row, column), None)
            self.assertIs(is_full(floor), False)

    def test_told_lists_are_new_ones(self):
        for tell in (places_of, laid_places):
            first = tell(FLOOR)
            before = list(first)
            first.append("more")
            first[0] = None
            self.assertEqual(tell(FLOOR), before)

    def test_against_plain_words(self):
        for tiles, floor in some_pairs(11, 80, SIZES):
            places = [(r, c) for r in range(len(floor)) for c in range(len(floor[0]))]
            self.assertEqual(places_of(floor), places)
            laid = [(r, c) for r, c in places if floor[r][c] is not None]
            self.assertEqual(laid_places(floor), laid)
            self.assertIs(is_full(floor), laid == places)
            for r, c in places:
                self.assertEqual(tile_at(floor, (r, c)), floor[r][c])


class Tiles(unittest.TestCase):
    def test_tile_at(self):
        self.assertEqual(tile_at(FLOOR, (0, 0)), 0)
        self.assertIsNone(tile_at(FLOOR, (0, 1)))
        self.assertEqual(tile_at(FLOOR, (0, 2)), 2)
        self.assertIsNone(tile_at(FLOOR, (1, 0)))
        self.assertEqual(tile_at(FLOOR, (1, 2)), 1)

    def test_tile_at_no_place(self):
        for floor in (FLOOR, ((0,),), ((0, 1, 2),), ((0,), (1,))):
            for place in outside(floor):
                with self.assertRaises(NoPlace):
                    tile_at(floor, place)

    def test_other_things_are_no_places(self):
        for place in ((True, 0), (0, False), (0,), (0, 0, 0), (), [0, 0], None, 0, "00"):
            with self.assertRaises(NoPlace):
                tile_at(FLOOR, place)
            with self.assertRaises(NoPlace):
                with_tile(SOME, FLOOR, place, 0)

    def test_with_tile(self):
        self.assertEqual(with_tile(SOME, FLOOR, (0, 1), 1), ((0, 1, 2), (None, 1, 1)))
        self.assertEqual(with_tile(SOME, FLOOR, (1, 2), 0), ((0, None, 2), (None, 1, 0)))
        self.assertEqual(with_tile(SOME, FLOOR, (0, 0), 0), FLOOR)
        self.assertEqual(with_tile(sixteen(), ((None,),), (0, 0), 15), ((15,),))

    def test_with_none(self):
        self.assertEqual(with_tile(SOME, FLOOR, (0, 0), None), ((None, None, 2), (None, 1, 1)))
        self.assertEqual(with_tile(SOME, FLOOR, (0, 1), None), FLOOR)
        self.assertEqual(with_tile(SOME, ((0,),), (0, 0), None), ((None,),))

    def test_each_place_alone_is_changed(self):
        for place in places_of(FLOOR):
            for number in (None, 0, 1, 2):
                told = with_tile(SOME, FLOOR, place, number)
                self.assertTrue(is_floor(SOME, told))
                for other in places_of(FLOOR):
                    wanted = number if other == place else tile_at(FLOOR, other)
                    self.assertEqual(tile_at(told, other), wanted)

    def test_with_tile_no_place(self):
        for place in outside(FLOOR):
            for number in (0, 2, None):
                with self.assertRaises(NoPlace):
                    with_tile(SOME, FLOOR, place, number)

    def test_with_tile_no_tile(self):
        for number in (-1, -3, -4, 3, 4, 16, 100, True, False):
            for place in ((0, 0), (0, 1), (1, 2)):
                with self.assertRaises(NoTile):
                    with_tile(SOME, FLOOR, place, number)

    def test_no_place_is_ahead_of_no_tile(self):
        for place in outside(FLOOR):
            for number in (-1, 3, 16):
                with self.assertRaises(NoPlace):
                    with_tile(SOME, FLOOR, place, number)

    def test_what_is_handed_in_is_as_it_was(self):
        tiles, floor, place = copy.deepcopy((SOME, FLOOR, (1, 0)))
        with_tile(tiles, floor, place, 2)
        with self.assertRaises(NoTile):
            with_tile(tiles, floor, place, 3)
        with self.assertRaises(NoPlace):
            with_tile(tiles, floor, (2, 0), 0)
        clashes(tiles, floor)
        self.assertEqual((tiles, floor, place), (SOME, FLOOR, (1, 0)))


class Clashes(unittest.TestCase):
    def test_east_ahead_of_south_row_by_row(self):
        self.assertEqual(clashes(LONE, ((0, 0), (0, 0))), [
            ((0, 0), "east"), ((0, 0), "south"), ((0, 1), "south"), ((1, 0), "east"),
        ])

    def test_which_edges_meet(self):
        tiles = ((0, 1, 2, 3), (2, 4, 5, 1))
        self.assertEqual(clashes(tiles, ((0, 1),)), [])
        self.assertEqual(clashes(tiles, ((1, 0),)), [((0, 0), "east")])
        self.assertEqual(clashes(tiles, ((0,), (1,))), [])
        self.assertEqual(clashes(tiles, ((1,), (0,))), [((0, 0), "south")])

    def test_none_where_one_has_no_tile(self):
        for floor in (((0, None),), ((None, 0),), ((0,), (None,)), ((None,), (0,)), empty(3, 3)):
            self.assertEqual(clashes(LONE, floor), [])
        self.assertEqual(clashes(LONE, ((0, None), (None, 0))), [])

    def test_not_round_the_sides(self):
        self.assertEqual(clashes(PAIR, ((0, 0, 0),)), [])
        self.assertEqual(clashes(((0, 1, 0, 1), (0, 2, 0, 1)), ((0, 0, 1), (0, 0, 1))), [])
        self.assertEqual(clashes(((1, 0, 0, 0), (1, 0, 1, 0)), ((1, 1), (1, 1), (0, 0))), [])

    def test_one_place_has_none(self):
        self.assertEqual(clashes(LONE, ((0,),)), [])
        self.assertIs(is_right(LONE, ((0,),)), True)
        self.assertIs(is_right(LONE, ((None,),)), False)

    def test_is_right(self):
        tiles = ((0, 1, 2, 3), (2, 4, 5, 1))
        self.assertIs(is_right(tiles, ((0, 1),)), True)
        self.assertIs(is_right(tiles, ((1, 0),)), False)
        self.assertIs(is_right(tiles, ((0, None),)), False)
        self.assertIs(is_right(tiles, empty(2, 2)), False)
        self.assertIs(is_right(tiles, ((0,), (1,))), True)

    def test_against_plain_words(self):
        for blank in (0, 0.2, 0.6):
            for tiles, floor in some_pairs(5, 120, SIZES, blank, colours=2):
                wanted = plain_clashes(tiles, floor)
                self.assertEqual(clashes(tiles, floor), wanted)
                self.assertIs(is_right(tiles, floor), is_full(floor) and wanted == [])

    def test_sixteen_places_of_the_sixteen_tiles(self):
        tiles = sixteen()
        self.assertIs(is_right(tiles, ((0,) * 4,) * 4), True)
        self.assertIs(is_right(tiles, ((15,) * 4,) * 4), True)
        floor = with_tile(tiles, ((0,) * 4,) * 4, (1, 2), 15)
        self.assertEqual(clashes(tiles, floor), [
            ((0, 2), "south"), ((1, 1), "east"), ((1, 2), "east"), ((1, 2), "south"),
        ])

    def test_told_lists_are_new_ones(self):
        floor = ((0, 0), (0, 0))
        first = clashes(LONE, floor)
        before = list(first)
        first.clear()
        self.assertEqual(clashes(LONE, floor), before)

    def test_parts_of_a_right_floor_are_right(self):
        seen = 0
        for tiles, rows, columns in ((PAIR, 3, 3), (((0, 1, 0, 0), (0, 0, 1, 1), (1, 0, 0, 0)), 2, 4)):
            for floor in all_floors(tiles, rows, columns):
                if not is_right(tiles, floor):
                    continue
                seen += 1
                for top, left in product(range(rows), range(columns)):
                    for below, right in product(range(top + 1, rows + 1), range(left + 1, columns + 1)):
                        part = tuple(row[left:right] for row in floor[top:below])
                        self.assertIs(is_right(tiles, part), True)
        self.assertGreater(seen, 10)


class Edges(unittest.TestCase):
    def test_one_place(self):
        self.assertEqual(edges_of(LONE, ((0,),)), ((0,), (1,), (2,), (3,)))

    def test_one_row(self):
        self.assertEqual(edges_of(SOME, ((0, 1, 2),)), ((0, 3, 0), (3,), (2, 1, 8), (3,)))

    def test_one_column(self):
        self.assertEqual(edges_of(SOME, ((0,), (1,), (2,))), ((0,), (1, 2, 3), (8,), (3, 0, 1)))

    def test_order_and_direction(self):
        self.assertEqual(edges_of(SOME, ((0, 1), (2, 0), (1, 2))), ((0, 3), (2, 1, 3), (1, 8), (3, 1, 0)))

    def test_kinds(self):
        told = edges_of(SOME, ((0, 1), (2, 0)))
        self.assertIsInstance(told, tuple)
        self.assertEqual([isinstance(side, tuple) for side in told], [True] * 4)

    def test_against_plain_words(self):
        for tiles, floor in some_pairs(8, 80, SIZES, blank=0):
            self.assertEqual(edges_of(tiles, floor), (
                tuple(tiles[number][0] for number in floor[0]),
                tuple(tiles[row[-1]][1] for row in floor),
                tuple(tiles[number][2] for number in floor[-1]),
                tuple(tiles[row[0]][3] for row in floor),
            ))


if __name__ == "__main__":
    unittest.main()
