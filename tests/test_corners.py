"""Corners: 7.1 to 7.3, 0.2 (f), and 0.3 as far as it speaks of them."""

import copy
import unittest
from itertools import product
from random import Random

from floorfits.corners import (
    are_corners, corner_set, corner_tile, corners_at, corners_of, floor_of, tiles_around, with_corner,
)
from floorfits.counting import count_fills
from floorfits.errors import NoPlace, Unlike
from floorfits.floors import is_floor, is_right, is_set
from floorfits.knowing import differing
from tests.plain import (
    EIGHT, ODD, all_floors, bare, changed, grown_fills, outside, plain_clashes, refusal, sixteen, some_floor, spoilt,
)

FOURS = tuple(product((0, 1), repeat=4))
CORNERS = ((0, 1, 1), (1, 0, 1))


def all_maps(rows, columns):
    for flat in product((0, 1), repeat=rows * columns):
        yield tuple(flat[r * columns:(r + 1) * columns] for r in range(rows))


def some_map(chance, rows, columns):
    return tuple(tuple(chance.randrange(2) for _ in range(columns)) for _ in range(rows))


def some_maps(seed, sizes):
    chance = Random(seed)
    for rows, columns in sizes:
        yield some_map(chance, rows + 1, columns + 1)


def plain_floor(corners):
    return tuple(
        tuple(
            8 * corners[r][c] + 4 * corners[r][c + 1] + 2 * corners[r + 1][c + 1] + corners[r + 1][c]
            for c in range(len(corners[0]) - 1)
        )
        for r in range(len(corners) - 1)
    )


class TheSixteen(unittest.TestCase):
    def test_tiles_by_hand(self):
        self.assertEqual(corner_tile(0, 0, 0, 0), (0, 0, 0, 0))
        self.assertEqual(corner_tile(1, 0, 0, 0), (3, 0, 0, 3))
        self.assertEqual(corner_tile(0, 1, 0, 0), (1, 3, 0, 0))
        self.assertEqual(corner_tile(0, 0, 1, 0), (0, 1, 1, 0))
        self.assertEqual(corner_tile(0, 0, 0, 1), (0, 0, 3, 1))
        self.assertEqual(corner_tile(1, 1, 1, 1), (4, 4, 4, 4))
        self.assertEqual(corner_tile(1, 0, 1, 0), (3, 1, 1, 3))

    def test_all_fours(self):
        for nw, ne, se, sw in FOURS:
            told = corner_tile(nw, ne, se, sw)
            self.assertEqual(told, (3 * nw + ne, 3 * ne + se, 3 * sw + se, 3 * nw + sw))
            self.assertIsInstance(told, tuple)

    def test_the_set(self):
        tiles = corner_set()
        self.assertIs(is_set(tiles), True)
        self.assertEqual(len(tiles), 16)
        self.assertEqual(tiles, sixteen())
        self.assertEqual(tiles[8], (3, 0, 0, 3))
        self.assertEqual(tiles[4], (1, 3, 0, 0))
        self.assertEqual(tiles[2], (0, 1, 1, 0))
        self.assertEqual(tiles[1], (0, 0, 3, 1))

    def test_each_at_its_number(self):
        tiles = corner_set()
        for nw, ne, se, sw in FOURS:
            number = 8 * nw + 4 * ne + 2 * se + sw
            self.assertEqual(tiles[number], corner_tile(nw, ne, se, sw))
            self.assertEqual(corners_at(number), (nw, ne, se, sw))

    def test_corners_lead_back(self):
        for number in range(16):
            told = corners_at(number)
            self.assertIsInstance(told, tuple)
            self.assertEqual([isinstance(part, bool) for part in told], [False] * 4)
            self.assertEqual(corner_tile(*told), corner_set()[number])
            self.assertEqual(floor_of((told[:2], (told[3], told[2]))), ((number,),))


class AreCorners(unittest.TestCase):
    def test_two_to_seven_rows_and_columns(self):
        for rows, columns in product(range(10), repeat=2):
            wanted = 2 <= rows <= 7 and 2 <= columns <= 7
            for colour in (0, 1):
                self.assertIs(are_corners(((colour,) * columns,) * rows), wanted)

    def test_all_small_maps(self):
        for corners in all_maps(2, 3):
            self.assertIs(are_corners(corners), True)

    def test_rows_of_unlike_lengths(self):
        for thing in (
            ((0, 0), (0, 0, 0)), ((0, 0, 0), (0, 0)), ((0, 0), (0, 0), (0,)), ((0, 0), ()), ((1,), (1, 1)),
            ((0, 0), (0, 0, 0), (0, 0)), ((0,) * 7, (0,) * 8), ((0,) * 8, (0,) * 7),
        ):
            self.assertIs(are_corners(thing), False)

    def test_lists_in_the_place_of_tuples(self):
        for thing in ([[0, 1], [1, 0]], [(0, 1), (1, 0)], ((0, 1), [1, 0]), ([0, 1], (1, 0)), ([0, 1], [1, 0])):
            self.assertIs(are_corners(thing), False)

    def test_a_colour_spoilt(self):
        for row, column in product(range(2), range(3)):
            for thing in ODD + (2, 3, 8, -2, 2 ** 70):
                if thing in (0, 1) and not isinstance(thing, bool):
                    continue
                corners = spoilt(CORNERS, row, spoilt(CORNERS[row], column, thing))
                self.assertIs(are_corners(corners), False)

    def test_a_row_spoilt(self):
        for row in range(2):
            for thing in ODD + ((0, 1), (0, 1, 1, 1), [0, 1, 1], "011", 5):
                self.assertIs(are_corners(spoilt(CORNERS, row, thing)), False)

    def test_the_whole_spoilt(self):
        for thing in ODD + (list(CORNERS), (CORNERS, CORNERS), (CORNERS,), "01", (0, 1), ((0, 1), "01")):
            self.assertIs(are_corners(thing), False)

    def test_truths_are_no_colours(self):
        self.assertIs(are_corners(((True, False), (False, True))), False)
        self.assertIs(are_corners(((0, 1), (1, False))), False)
        self.assertIs(are_corners(((0, True), (1, 0))), False)


class Floors(unittest.TestCase):
    def test_by_hand(self):
        self.assertEqual(floor_of(((0, 0), (0, 0))), ((0,),))
        self.assertEqual(floor_of(((1, 0), (0, 0))), ((8,),))
        self.assertEqual(floor_of(((0, 1), (0, 0))), ((4,),))
        self.assertEqual(floor_of(((0, 0), (0, 1))), ((2,),))
        self.assertEqual(floor_of(((0, 0), (1, 0))), ((1,),))
        self.assertEqual(floor_of(((0, 1, 0), (1, 1, 0))), ((7, 9),))
        self.assertEqual(floor_of(((0, 1), (1, 1), (0, 0))), ((7,), (12,)))

    def test_all_small_maps(self):
        for rows, columns in ((2, 2), (2, 3), (3, 2), (3, 3), (2, 4), (4, 2), (2, 5), (5, 2)):
            for corners in all_maps(rows, columns):
                floor = floor_of(corners)
                self.assertEqual(floor, plain_floor(corners))
                self.assertEqual((len(floor), len(floor[0])), (rows - 1, columns - 1))
                self.assertEqual(plain_clashes(sixteen(), floor), [])
                self.assertEqual(corners_of(floor), corners)

    def test_they_are_right_floors_of_the_set(self):
        for corners in some_maps(701, EIGHT * 5):
            floor = floor_of(corners)
            self.assertIs(is_floor(corner_set(), floor), True)
            self.assertIs(is_right(corner_set(), floor), True)
            self.assertEqual(floor, plain_floor(corners))
            self.assertEqual(corners_of(floor), corners)
            self.assertIs(are_corners(corners_of(floor)), True)

    def test_the_greatest_maps(self):
        for corners in some_maps(702, ((6, 6), (6, 1), (1, 6), (6, 5), (5, 6), (4, 4))):
            floor = floor_of(corners)
            self.assertEqual(floor, plain_floor(corners))
            self.assertIs(is_floor(corner_set(), floor), True)
            self.assertEqual(plain_clashes(sixteen(), floor), [])
            self.assertEqual(corners_of(floor), corners)

    def test_each_tile_has_its_four_corners(self):
        for corners in some_maps(703, EIGHT):
            for r, row in enumerate(floor_of(corners)):
                for c, number in enumerate(row):
                    around = (corners[r][c], corners[r][c + 1], corners[r + 1][c + 1], corners[r + 1][c])
                    self.assertEqual(corners_at(number), around)


class BackToCorners(unittest.TestCase):
    def test_by_hand(self):
        self.assertEqual(corners_of(((0,),)), ((0, 0), (0, 0)))
        self.assertEqual(corners_of(((8,),)), ((1, 0), (0, 0)))
        self.assertEqual(corners_of(((4,),)), ((0, 1), (0, 0)))
        self.assertEqual(corners_of(((2,),)), ((0, 0), (0, 1)))
        self.assertEqual(corners_of(((1,),)), ((0, 0), (1, 0)))
        self.assertEqual(corners_of(((7, 9),)), ((0, 1, 0), (1, 1, 0)))
        self.assertEqual(corners_of(((7,), (12,))), ((0, 1), (1, 1), (0, 0)))

    def test_floors_that_are_not_full(self):
        for size in EIGHT:
            self.assertIs(refusal(corners_of, bare(*size)), Unlike)
        for corners in some_maps(704, EIGHT):
            floor = floor_of(corners)
            for r, c in product(range(len(floor)), range(len(floor[0]))):
                self.assertIs(refusal(corners_of, changed(floor, (r, c), None)), Unlike)

    def test_floors_that_do_not_fit(self):
        self.assertIs(refusal(corners_of, ((0, 15),)), Unlike)
        self.assertIs(refusal(corners_of, ((0,), (15,))), Unlike)
        # One corner of the two is alike, and one is not.
        self.assertIs(refusal(corners_of, ((4, 9),)), Unlike)
        self.assertIs(refusal(corners_of, ((2, 9),)), Unlike)
        self.assertIs(refusal(corners_of, ((1,), (12,))), Unlike)
        self.assertIs(refusal(corners_of, ((2,), (12,))), Unlike)

    def test_rows_fit_and_columns_do_not(self):
        self.assertIs(refusal(corners_of, ((0, 0), (15, 15))), Unlike)
        self.assertIs(refusal(corners_of, ((0, 0, 0), (0, 4, 8))), Unlike)
        self.assertIs(refusal(corners_of, ((0, 15), (0, 15))), Unlike)
        self.assertIs(refusal(corners_of, ((0, 0), (0, 0), (0, 4))), Unlike)

    def test_numbers_that_the_set_has_not(self):
        for number in (16, 17, -1, -16, 99):
            self.assertIs(refusal(corners_of, ((number,),)), Unlike)
            self.assertIs(refusal(corners_of, ((0, number),)), Unlike)

    def test_floors_without_places(self):
        for floor in ((), ((),), ((), ())):
            self.assertIs(refusal(corners_of, floor), Unlike)

    def test_all_small_floors(self):
        for rows, columns in ((1, 1), (1, 2), (2, 1)):
            known = {plain_floor(corners): corners for corners in all_maps(rows + 1, columns + 1)}
            for floor in all_floors(sixteen(), rows, columns):
                if floor in known:
                    self.assertEqual(corners_of(floor), known[floor])
                else:
                    self.assertIs(refusal(corners_of, floor), Unlike)

    def test_some_larger_floors(self):
        chance = Random(705)
        for rows, columns in EIGHT:
            for _ in range(20):
                floor = some_floor(chance, sixteen(), rows, columns, 0)
                refused = refusal(corners_of, floor)
                self.assertIs(refused, Unlike if plain_clashes(sixteen(), floor) else None)

    def test_one_tile_exchanged_is_refused(self):
        for corners in some_maps(706, EIGHT):
            floor = floor_of(corners)
            if floor == ((floor[0][0],),):
                continue
            for r, c, number in product(range(len(floor)), range(len(floor[0])), range(16)):
                other = changed(floor, (r, c), number)
                if plain_clashes(sixteen(), other):
                    self.assertIs(refusal(corners_of, other), Unlike)
                else:
                    self.assertEqual(plain_floor(corners_of(other)), other)

    def test_each_right_floor_is_one_of_a_map(self):
        for rows, columns in ((1, 1), (1, 2), (2, 1), (1, 3), (3, 1), (2, 2), (1, 4), (4, 1)):
            wholes = grown_fills(sixteen(), bare(rows, columns))
            maps = list(all_maps(rows + 1, columns + 1))
            self.assertEqual(sorted(floor_of(corners) for corners in maps), wholes)
            self.assertEqual(sorted(corners_of(whole) for whole in wholes), maps)

    def test_as_many_right_floors_as_maps(self):
        for rows, columns in EIGHT:
            self.assertEqual(count_fills(corner_set(), bare(rows, columns)), 2 ** ((rows + 1) * (columns + 1)))


class OtherCorners(unittest.TestCase):
    def test_by_hand(self):
        corners = ((0, 1, 1), (1, 0, 1))
        self.assertEqual(with_corner(corners, (0, 0), 1), ((1, 1, 1), (1, 0, 1)))
        self.assertEqual(with_corner(corners, (1, 2), 0), ((0, 1, 1), (1, 0, 0)))
        self.assertEqual(with_corner(corners, (1, 1), 0), corners)
        self.assertEqual(tiles_around(corners, (0, 0)), [(0, 0)])
        self.assertEqual(tiles_around(corners, (0, 1)), [(0, 0), (0, 1)])
        self.assertEqual(tiles_around(corners, (0, 2)), [(0, 1)])
        self.assertEqual(tiles_around(corners, (1, 0)), [(0, 0)])
        self.assertEqual(tiles_around(corners, (1, 1)), [(0, 0), (0, 1)])
        self.assertEqual(tiles_around(corners, (1, 2)), [(0, 1)])
        square = ((0,) * 4,) * 4
        self.assertEqual(tiles_around(square, (1, 2)), [(0, 1), (0, 2), (1, 1), (1, 2)])
        self.assertEqual(tiles_around(square, (2, 0)), [(1, 0), (2, 0)])
        self.assertEqual(tiles_around(square, (3, 3)), [(2, 2)])

    def test_each_corner(self):
        for corners in some_maps(707, EIGHT + ((6, 6), (4, 4), (3, 5))):
            for place in product(range(len(corners)), range(len(corners[0]))):
                for colour in (0, 1):
                    told = with_corner(corners, place, colour)
                    self.assertEqual(told, changed(corners, place, colour))
                    self.assertIs(are_corners(told), True)

    def test_places_outside(self):
        for corners in some_maps(708, EIGHT + ((6, 6),)):
            for place in outside(corners):
                for colour in (0, 1):
                    self.assertIs(refusal(with_corner, corners, place, colour), NoPlace)

    def test_tiles_around_are_just_those_that_change(self):
        for corners in some_maps(709, EIGHT + ((6, 6), (4, 4), (3, 5))):
            floor = plain_floor(corners)
            for place in product(range(len(corners)), range(len(corners[0]))):
                other = changed(corners, place, 1 - corners[place[0]][place[1]])
                told = tiles_around(corners, place)
                self.assertEqual(told, differing(floor, plain_floor(other)))
                self.assertEqual(told, sorted(told))
                self.assertIsInstance(told, list)

    def test_how_many_tiles_have_a_corner(self):
        square = ((0,) * 5,) * 4
        for row, column in product(range(4), range(5)):
            wanted = (1 if row in (0, 3) else 2) * (1 if column in (0, 4) else 2)
            self.assertEqual(len(tiles_around(square, (row, column))), wanted)

    def test_no_tile_has_a_corner_outside(self):
        for corners in some_maps(710, EIGHT):
            for place in outside(corners):
                self.assertEqual(tiles_around(corners, place), [])


class Kept(unittest.TestCase):
    def test_told_lists_are_new_ones(self):
        first = tiles_around(CORNERS, (0, 1))
        first.append("more")
        first[0] = None
        self.assertEqual(tiles_around(CORNERS, (0, 1)), [(0, 0), (0, 1)])
        self.assertIsNot(tiles_around(CORNERS, (0, 1)), tiles_around(CORNERS, (0, 1)))

    def test_what_is_handed_in_is_as_it_was(self):
        kept = (CORNERS, (1, 1), ((0, 4), (0, 8)), [[0, 1], [1, 0]])
        before = copy.deepcopy(kept)
        corners, place, floor, rows = kept
        for _ in range(2):
            self.assertEqual(with_corner(corners, place, 1), ((0, 1, 1), (1, 1, 1)))
            self.assertEqual(floor_of(corners), ((5, 14),))
            self.assertIs(refusal(corners_of, floor), Unlike)
            self.assertIs(refusal(with_corner, corners, (2, 0), 1), NoPlace)
            self.assertIs(are_corners(rows), False)
            self.assertIs(are_corners(corners), True)
        self.assertEqual(kept, before)


if __name__ == "__main__":
    unittest.main()
