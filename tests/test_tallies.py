"""Tallies: 11.1, and 0.3 as far as it speaks of them."""

import copy
import unittest
from collections import Counter
from itertools import product
from random import Random

from floorfits.floors import clashes, places_of
from floorfits.tallies import colours_on, like_rows, seams, tally, windows
from floorfits.turning import part
from tests.plain import (
    EAST, EVERY, FREE, LONE, NORTH, PAIR, ROWS, SIXTEEN, SOUTH, STAIRS, WEST, bare, changed, laid, sixteen, some_floor,
)

FLOOR = ((0, 1, None), (1, 1, 0), (0, 1, None))
SETS = (LONE, PAIR, FREE, ROWS, STAIRS, sixteen())


def some_trials(seed, sizes=EVERY):
    chance = Random(seed)
    for rows, columns in sizes:
        for blank in (0, 0.3, 0.7, 1):
            tiles = chance.choice(SETS)
            yield tiles, some_floor(chance, tiles, rows, columns, blank)


def plain_seams(tiles, floor):
    alike = unlike = 0
    for (r, c), (row, column) in product(laid(floor), repeat=2):
        if (row, column) == (r, c + 1):
            same = tiles[floor[r][c]][EAST] == tiles[floor[row][column]][WEST]
        elif (row, column) == (r + 1, c):
            same = tiles[floor[r][c]][SOUTH] == tiles[floor[row][column]][NORTH]
        else:
            continue
        alike, unlike = alike + same, unlike + (not same)
    return (alike, unlike)


def plain_windows(floor, piece):
    found = []
    for r, c in product(range(len(floor)), range(len(floor[0]))):
        if r + len(piece) > len(floor) or c + len(piece[0]) > len(floor[0]):
            continue
        if all(floor[r + row][c + column] == piece[row][column] for row, column in laid(piece)):
            found.append((r, c))
    return found


class Tally(unittest.TestCase):
    def test_by_hand(self):
        self.assertEqual(tally(FLOOR), [(0, 3), (1, 4)])
        self.assertEqual(tally(((4, None, 2),)), [(2, 1), (4, 1)])
        self.assertEqual(tally(((15, 2), (10, 2))), [(2, 2), (10, 1), (15, 1)])
        self.assertEqual(tally(((0,),)), [(0, 1)])

    def test_a_floor_without_tiles(self):
        for size in EVERY:
            self.assertEqual(tally(bare(*size)), [])

    def test_against_a_plain_look(self):
        for _, floor in some_trials(1101):
            told = tally(floor)
            numbers = [number for row in floor for number in row if number is not None]
            self.assertEqual(told, sorted(Counter(numbers).items()))
            self.assertEqual(sum(many for _, many in told), len(laid(floor)))
            self.assertIsInstance(told, list)


class Colours(unittest.TestCase):
    def test_by_hand(self):
        # PAIR: 0101 and 1100.
        self.assertEqual(colours_on(PAIR, ((0,),)), [(0, 2), (1, 2)])
        self.assertEqual(colours_on(PAIR, FLOOR), [(0, 14), (1, 14)])
        self.assertEqual(colours_on(LONE, ((0, None, 0),)), [(0, 2), (1, 2), (2, 2), (3, 2)])
        self.assertEqual(colours_on(ROWS, ((0, 2),)), [(0, 2), (1, 1), (2, 1), (5, 4)])

    def test_a_tile_whose_edges_have_one_colour(self):
        tiles = ((7, 7, 7, 7), (0, 7, 8, 0))
        self.assertEqual(colours_on(tiles, ((0,),)), [(7, 4)])
        self.assertEqual(colours_on(tiles, ((0, 1, 0),)), [(0, 2), (7, 9), (8, 1)])

    def test_a_floor_without_tiles(self):
        for size in EVERY:
            self.assertEqual(colours_on(PAIR, bare(*size)), [])

    def test_against_a_plain_look(self):
        for tiles, floor in some_trials(1102):
            told = colours_on(tiles, floor)
            colours = [colour for r, c in laid(floor) for colour in tiles[floor[r][c]]]
            self.assertEqual(told, sorted(Counter(colours).items()))
            self.assertEqual(sum(many for _, many in told), 4 * len(laid(floor)))
            self.assertIsInstance(told, list)


class Seams(unittest.TestCase):
    def test_by_hand(self):
        self.assertEqual(seams(PAIR, ((0, 0),)), (1, 0))
        self.assertEqual(seams(PAIR, ((0, 1),)), (0, 1))
        self.assertEqual(seams(PAIR, ((0,), (0,))), (1, 0))
        self.assertEqual(seams(PAIR, ((0,), (1,))), (0, 1))
        self.assertEqual(seams(PAIR, ((0, None, 1),)), (0, 0))
        self.assertEqual(seams(PAIR, ((0, 0), (0, 1))), (2, 2))
        self.assertEqual(seams(LONE, ((0, 0), (0, 0))), (0, 4))
        self.assertEqual(seams(FREE, ((0,) * 6,) * 6), (60, 0))

    def test_a_floor_without_tiles_or_with_one(self):
        for size in EVERY:
            self.assertEqual(seams(PAIR, bare(*size)), (0, 0))
            self.assertEqual(seams(PAIR, changed(bare(*size), (0, 0), 1)), (0, 0))

    def test_a_tile_whose_edges_have_one_colour(self):
        tiles = ((7, 7, 7, 7), (8, 8, 8, 8))
        self.assertEqual(seams(tiles, ((0, 0), (0, 0))), (4, 0))
        self.assertEqual(seams(tiles, ((0, 1), (1, 0))), (0, 4))
        self.assertEqual(seams(tiles, ((0, 1), (0, 1))), (2, 2))

    def test_against_a_plain_look(self):
        for tiles, floor in some_trials(1103):
            told = seams(tiles, floor)
            self.assertEqual(told, plain_seams(tiles, floor))
            self.assertIsInstance(told, tuple)
            self.assertEqual(told[1], len(clashes(tiles, floor)))
            rows, columns = len(floor), len(floor[0])
            if len(laid(floor)) == rows * columns:
                self.assertEqual(sum(told), rows * (columns - 1) + columns * (rows - 1))


class LikeRows(unittest.TestCase):
    def test_by_hand(self):
        self.assertEqual(like_rows(FLOOR), [(0, 2)])
        self.assertEqual(like_rows(((0, 1),)), [])
        self.assertEqual(like_rows(((0,), (0,), (0,))), [(0, 1), (0, 2), (1, 2)])
        self.assertEqual(like_rows(((0,), (1,), (0,), (1,))), [(0, 2), (1, 3)])
        self.assertEqual(like_rows(((0, None), (None, 0))), [])
        self.assertEqual(like_rows(((0, 1), (1, 0))), [])
        self.assertEqual(like_rows(((0, 1), (0, None))), [])

    def test_rows_without_tiles_are_alike_too(self):
        self.assertEqual(like_rows(bare(2, 3)), [(0, 1)])
        self.assertEqual(len(like_rows(bare(6, 6))), 15)

    def test_against_a_plain_look(self):
        chance = Random(1104)
        for rows, columns in EVERY:
            for tiles in (LONE, PAIR):
                floor = some_floor(chance, tiles, rows, columns, 0.3)
                wanted = [
                    (one, other) for one in range(rows) for other in range(rows)
                    if one < other and floor[one] == floor[other]
                ]
                told = like_rows(floor)
                self.assertEqual(told, wanted)
                self.assertEqual(told, sorted(told))


class Windows(unittest.TestCase):
    def test_by_hand(self):
        self.assertEqual(windows(FLOOR, ((1,),)), [(0, 1), (1, 0), (1, 1), (2, 1)])
        self.assertEqual(windows(FLOOR, ((0, 1),)), [(0, 0), (2, 0)])
        self.assertEqual(windows(FLOOR, ((1,), (1,))), [(0, 1), (1, 1)])
        self.assertEqual(windows(FLOOR, ((0, 1), (1, 1))), [(0, 0)])
        self.assertEqual(windows(FLOOR, ((1, None), (1, 0))), [(0, 1)])
        self.assertEqual(windows(FLOOR, ((None, 0),)), [(1, 1)])
        self.assertEqual(windows(FLOOR, ((2,),)), [])

    def test_as_great_as_the_floor(self):
        for _, floor in some_trials(1105):
            self.assertEqual(windows(floor, floor), [(0, 0)])
            for r, c in laid(floor):
                self.assertEqual(windows(floor, changed(floor, (r, c), floor[r][c] + 1)), [])
                self.assertEqual(windows(floor, changed(floor, (r, c), None)), [(0, 0)])
                self.assertEqual(windows(changed(floor, (r, c), None), floor), [])

    def test_greater_than_the_floor(self):
        self.assertEqual(windows(((0, 0),), ((0, 0, 0),)), [])
        self.assertEqual(windows(((0, 0),), ((0,), (0,))), [])
        self.assertEqual(windows(((0, 0),), bare(1, 3)), [])
        self.assertEqual(windows(((0, 0),), bare(2, 1)), [])
        self.assertEqual(windows(bare(2, 2), bare(3, 3)), [])
        self.assertEqual(windows(bare(2, 6), bare(6, 2)), [])

    def test_pieces_without_tiles(self):
        self.assertEqual(windows(FLOOR, ((None,),)), places_of(FLOOR))
        self.assertEqual(windows(FLOOR, bare(2, 2)), [(0, 0), (0, 1), (1, 0), (1, 1)])
        self.assertEqual(windows(FLOOR, bare(3, 3)), [(0, 0)])
        for size, other in product(EVERY[::5], EVERY):
            wanted = [
                (r, c) for r in range(size[0]) for c in range(size[1])
                if r + other[0] <= size[0] and c + other[1] <= size[1]
            ]
            self.assertEqual(windows(bare(*size), bare(*other)), wanted)

    def test_a_tile_is_not_found_where_there_is_none(self):
        self.assertEqual(windows(((None, 0), (0, None)), ((0,),)), [(0, 1), (1, 0)])
        self.assertEqual(windows(bare(6, 6), ((0,),)), [])

    def test_against_a_plain_look(self):
        chance = Random(1106)
        seen = set()
        for rows, columns in EVERY:
            floor = some_floor(chance, PAIR, rows, columns, 0.2)
            for size in SIXTEEN:
                piece = some_floor(chance, PAIR, *size, chance.choice((0, 0.5, 0.9)))
                told = windows(floor, piece)
                self.assertEqual(told, plain_windows(floor, piece))
                self.assertEqual(told, sorted(told))
                seen.add(min(len(told), 3))
        self.assertEqual(seen, {0, 1, 2, 3})

    def test_each_part_is_found_where_it_is(self):
        chance = Random(1107)
        for rows, columns in EVERY:
            floor = some_floor(chance, FREE, rows, columns, 0.3)
            for place in places_of(floor):
                piece = part(floor, *place, 2, 2)
                self.assertIn(place, windows(floor, piece))


class NumbersThatTheSetHasNot(unittest.TestCase):
    def test_they_have_no_edges(self):
        for number in (1, 5, -1):
            self.assertEqual(colours_on(LONE, ((0, number),)), colours_on(LONE, ((0, None),)))
            self.assertEqual(seams(LONE, ((0, number), (0, 0))), seams(LONE, ((0, None), (0, 0))))
        self.assertEqual(tally(((7, 0, 7),)), [(0, 1), (7, 2)])


class Kept(unittest.TestCase):
    def test_told_lists_are_new_ones(self):
        for tell in (
            lambda: tally(FLOOR), lambda: colours_on(PAIR, FLOOR), lambda: like_rows(FLOOR),
            lambda: windows(FLOOR, ((1,),)),
        ):
            first = tell()
            before = list(first)
            first.append("more")
            first[0] = None
            self.assertEqual(tell(), before)
            first.clear()
            self.assertEqual(tell(), before)

    def test_what_is_handed_in_is_as_it_was(self):
        kept = (PAIR, FLOOR, ((1, None),))
        before = copy.deepcopy(kept)
        tiles, floor, piece = kept
        for _ in range(2):
            self.assertEqual(tally(floor), [(0, 3), (1, 4)])
            self.assertEqual(colours_on(tiles, floor), [(0, 14), (1, 14)])
            self.assertEqual(seams(tiles, floor), (2, 6))
            self.assertEqual(like_rows(floor), [(0, 2)])
            self.assertEqual(windows(floor, piece), [(0, 1), (1, 0), (1, 1), (2, 1)])
        self.assertEqual(kept, before)

    def test_how_many_are_whole_numbers(self):
        told = tally(((0, 1),)) + colours_on(LONE, ((0,),)) + like_rows(bare(2, 1)) + [seams(PAIR, ((0, 0),))]
        self.assertEqual({type(part) for two in told for part in two}, {int})


if __name__ == "__main__":
    unittest.main()
