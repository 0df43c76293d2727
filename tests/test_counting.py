"""Fills: 2.1, 2.2, 0.2 (b), and 0.3 as far as it speaks of them."""

import copy
import unittest
from itertools import product
from random import Random

from floorfits.counting import count_fills, fill, is_fill, number_of
from floorfits.errors import NoFill
from floorfits.floors import clashes, empty, is_right, places_of, tile_at, with_tile
from tests.plain import (
    EIGHT, FREE, LONE, ROWS, SMALL, STAIRS, all_floors, grown_fills, plain_fills, sixteen, some_floor, some_pairs,
    some_set,
)


class Counts(unittest.TestCase):
    def assertCounts(self, tiles, floor):
        """The fills, by a plain trial, are those that the four functions tell."""
        fills = plain_fills(tiles, floor)
        self.assertEqual(count_fills(tiles, floor), len(fills))
        self.assertEqual([fill(tiles, floor, number) for number in range(len(fills))], fills)
        self.assertEqual([number_of(tiles, floor, whole) for whole in fills], list(range(len(fills))))
        for number in (-len(fills), -1, len(fills), len(fills) + 1):
            if not 0 <= number < len(fills):
                with self.assertRaises(NoFill):
                    fill(tiles, floor, number)
        return len(fills)

    def assertFills(self, tiles, floor):
        fills = plain_fills(tiles, floor)
        for whole in all_floors(tiles, len(floor), len(floor[0])):
            self.assertIs(is_fill(tiles, floor, whole), whole in fills)
            if whole not in fills:
                with self.assertRaises(NoFill):
                    number_of(tiles, floor, whole)

    def test_by_hand(self):
        tiles = ((0, 1, 0, 0), (0, 0, 0, 1), (1, 1, 0, 1))
        floor = empty(1, 2)
        fills = [((0, 1),), ((0, 2),), ((1, 0),), ((2, 1),), ((2, 2),)]
        self.assertEqual(count_fills(tiles, floor), 5)
        self.assertEqual([fill(tiles, floor, number) for number in range(5)], fills)
        self.assertEqual([number_of(tiles, floor, whole) for whole in fills], [0, 1, 2, 3, 4])
        self.assertEqual(count_fills(tiles, ((None, 1),)), 2)
        self.assertEqual(fill(tiles, ((None, 1),), 1), ((2, 1),))
        self.assertEqual(number_of(tiles, ((None, 1),), ((2, 1),)), 1)

    def test_one_place(self):
        self.assertEqual(self.assertCounts(FREE, ((None,),)), 5)
        self.assertEqual(self.assertCounts(FREE, ((3,),)), 1)
        self.assertEqual(self.assertCounts(LONE, ((None,),)), 1)

    def test_a_right_floor_is_its_only_fill(self):
        floor = ((0, 0), (0, 0))
        tiles = ((1, 1, 1, 1), (0, 0, 0, 0))
        self.assertEqual(self.assertCounts(tiles, floor), 1)
        self.assertEqual(fill(tiles, floor, 0), floor)

    def test_clashing_floors_have_none(self):
        tiles = ((0, 0, 0, 0), (1, 1, 1, 1))
        for floor in (((0, 1), (None, None)), ((0, None), (1, None)), ((None, None), (1, 0)), ((0, 1), (1, 0))):
            self.assertGreater(len(clashes(tiles, floor)), 0)
            self.assertEqual(self.assertCounts(tiles, floor), 0)
            self.assertFills(tiles, floor)

    def test_floors_without_clashes_may_have_none(self):
        tiles = ((0, 0, 0, 0), (1, 1, 1, 1))
        for floor in (((0, None), (None, 1)), ((0, None, 1),), ((0,), (None,), (1,))):
            self.assertEqual(clashes(tiles, floor), [])
            self.assertEqual(self.assertCounts(tiles, floor), 0)
        self.assertEqual(self.assertCounts(LONE, empty(2, 2)), 0)

    def test_numbers_that_the_set_has_not_leave_none(self):
        for number in (-1, -5, 5, 16):
            self.assertEqual(count_fills(FREE, ((None, number),)), 0)
            with self.assertRaises(NoFill):
                fill(FREE, ((None, number),), 0)

    def test_against_a_plain_trial(self):
        counts = []
        for blank in (0, 0.3, 0.6, 1):
            for tiles, floor in some_pairs(21, 60, SMALL, blank, colours=2):
                counts.append(self.assertCounts(tiles, floor))
                self.assertFills(tiles, floor)
        self.assertIn(0, counts)
        self.assertIn(1, counts)
        self.assertGreater(max(counts), 30)

    def test_larger_ones_against_a_plain_trial(self):
        counts = []
        for tiles, floor in some_pairs(4, 40, ((2, 3), (3, 2), (1, 6), (6, 1)), 0.8, most=4, colours=2):
            counts.append(self.assertCounts(tiles, floor))
        for tiles, floor in some_pairs(5, 20, ((2, 4), (4, 2), (1, 6), (6, 1), (2, 3)), 0.9, most=3, colours=2):
            counts.append(self.assertCounts(tiles, floor))
        self.assertIn(0, counts)
        self.assertGreater(max(counts), 60)

    def test_the_quicker_trial_of_the_tests_is_as_the_plain_one(self):
        for tiles, floor in some_pairs(31, 80, SMALL, 0.7, colours=2):
            self.assertEqual(grown_fills(tiles, floor), plain_fills(tiles, floor))

    def test_eight_places_against_a_trial(self):
        most = 0
        for tiles, floor in some_pairs(32, 40, EIGHT, 0.9, colours=2):
            fills = grown_fills(tiles, floor)
            most = max(most, len(fills))
            self.assertEqual(count_fills(tiles, floor), len(fills))
            for number in range(0, len(fills), 17):
                self.assertEqual(fill(tiles, floor, number), fills[number])
                self.assertEqual(number_of(tiles, floor, fills[number]), number)
        self.assertGreater(most, 100)

    def test_all_numbers_at_a_place_have_all_fills(self):
        for tiles, floor in some_pairs(9, 60, EIGHT, 0.8, colours=2):
            for place in places_of(floor):
                if tile_at(floor, place) is None:
                    each = [count_fills(tiles, with_tile(tiles, floor, place, n)) for n in range(len(tiles))]
                    self.assertEqual(sum(each), count_fills(tiles, floor))

    def test_told_twice_alike_and_nothing_changed(self):
        tiles, floor = kept = (ROWS, ((None, 0, None), (None, None, 1)))
        before = copy.deepcopy(kept)
        first = [count_fills(tiles, floor), fill(tiles, floor, 0)]
        self.assertEqual(count_fills(LONE, ((0,),)), 1)
        self.assertEqual([count_fills(tiles, floor), fill(tiles, floor, 0)], first)
        with self.assertRaises(NoFill):
            fill(tiles, floor, first[0])
        self.assertIs(is_fill(tiles, floor, first[1]), True)
        self.assertEqual(kept, before)


class AreFills(unittest.TestCase):
    def test_a_fill(self):
        floor = ((None, 0), (1, None))
        self.assertIs(is_fill(FREE, empty(1, 2), ((2, 4),)), True)
        self.assertIs(is_fill(FREE, ((None, 4),), ((2, 4),)), True)
        self.assertIs(is_fill(FREE, ((2, 4),), ((2, 4),)), True)
        self.assertIs(is_fill(ROWS, floor, ((2, 0), (0, 1))), False)
        self.assertIs(is_fill(ROWS, floor, ((0, 0), (1, 1))), True)

    def assertNone(self, tiles, floor, whole):
        self.assertIs(is_fill(tiles, floor, whole), False)
        with self.assertRaises(NoFill):
            number_of(tiles, floor, whole)

    def test_of_another_size(self):
        for rows, columns in product(range(1, 7), repeat=2):
            for other_rows, other_columns in ((1, 1), (1, 2), (2, 1), (2, 2), (2, 4), (4, 2), (6, 1), (1, 6)):
                if (rows, columns) != (other_rows, other_columns):
                    whole = ((0,) * columns,) * rows
                    self.assertNone(FREE, empty(other_rows, other_columns), whole)
        self.assertNone(FREE, ((0, 0),), ((0, 0, 0),))
        self.assertNone(FREE, ((0, 0),), ((0,),))

    def test_one_that_is_not_full(self):
        self.assertNone(FREE, empty(1, 2), ((0, None),))
        self.assertNone(FREE, empty(1, 2), empty(1, 2))
        self.assertNone(FREE, ((0, None),), ((0, None),))
        self.assertNone(FREE, ((0, None),), ((None, 0),))

    def test_one_that_changes_a_laid_tile(self):
        self.assertNone(FREE, ((1, None),), ((2, 0),))
        self.assertNone(FREE, ((None, 0),), ((0, 1),))
        self.assertNone(FREE, ((1,),), ((0,),))

    def test_one_that_clashes(self):
        self.assertNone(LONE, empty(1, 2), ((0, 0),))
        self.assertNone(LONE, ((0, 0),), ((0, 0),))
        self.assertNone(LONE, empty(2, 1), ((0,), (0,)))

    def test_numbers_that_the_set_has_not_and_truths(self):
        for number in (-1, 5, 16, True, False):
            self.assertNone(FREE, empty(1, 2), ((0, number),))
        self.assertNone(FREE, ((1, None),), ((True, 0),))


class Numbers(unittest.TestCase):
    def test_none_below_0_nor_from_the_count_on(self):
        for tiles, floor in ((FREE, empty(1, 3)), (FREE, ((0,),)), (LONE, empty(2, 2)), (sixteen(), empty(2, 2))):
            many = count_fills(tiles, floor)
            for number in (-1, -2, -many - 1, many, many + 1, many * 10 + 1, 10 ** 30, -(10 ** 30)):
                with self.assertRaises(NoFill):
                    fill(tiles, floor, number)

    def test_truths_are_no_numbers(self):
        for number in (True, False):
            with self.assertRaises(NoFill):
                fill(FREE, empty(1, 2), number)

    def test_first_and_last(self):
        self.assertEqual(fill(FREE, empty(1, 4), 0), ((0, 0, 0, 0),))
        self.assertEqual(fill(FREE, empty(1, 4), 624), ((4, 4, 4, 4),))
        self.assertEqual(fill(FREE, empty(1, 4), 1), ((0, 0, 0, 1),))
        self.assertEqual(fill(FREE, empty(1, 4), 125), ((1, 0, 0, 0),))

    def test_row_by_row(self):
        tiles = ((0, 0, 0, 0), (0, 1, 0, 1))
        self.assertEqual([fill(tiles, empty(2, 2), number) for number in range(4)], [
            ((0, 0), (0, 0)), ((0, 0), (1, 1)), ((1, 1), (0, 0)), ((1, 1), (1, 1)),
        ])
        turned = ((0, 0, 0, 0), (1, 0, 1, 0))
        self.assertEqual([fill(turned, empty(2, 2), number) for number in range(4)], [
            ((0, 0), (0, 0)), ((0, 1), (0, 1)), ((1, 0), (1, 0)), ((1, 1), (1, 1)),
        ])

    def test_kinds(self):
        whole = fill(FREE, ((None, 2), (0, None)), 3)
        self.assertIsInstance(whole, tuple)
        self.assertEqual([isinstance(row, tuple) for row in whole], [True, True])
        self.assertIs(isinstance(number_of(FREE, ((1,),), ((1,),)), bool), False)


class Bounds(unittest.TestCase):
    """Floors of 8 places, with sets of 5 tiles and with the sixteen."""

    def assertNumbered(self, tiles, floor, many, chance):
        self.assertEqual(count_fills(tiles, floor), many)
        some = sorted({0, many - 1} | {chance.randrange(many) for _ in range(8)})
        told = [fill(tiles, floor, number) for number in some]
        self.assertEqual(told, sorted(told))
        for number, whole in zip(some, told):
            self.assertIs(is_fill(tiles, floor, whole), True)
            self.assertEqual(number_of(tiles, floor, whole), number)
            if number + 1 < many:
                self.assertLess(whole, fill(tiles, floor, number + 1))

    def test_the_sixteen(self):
        tiles = sixteen()
        chance = Random(3)
        for rows, columns in EIGHT + ((1, 8), (8, 1), (1, 7), (7, 1)):
            self.assertNumbered(tiles, empty(rows, columns), 2 ** ((rows + 1) * (columns + 1)), chance)

    def test_the_sixteen_with_tiles_laid(self):
        tiles = sixteen()
        self.assertEqual(count_fills(tiles, ((None,) * 4, (None, 0, None, None))), 2 ** 11)
        self.assertEqual(count_fills(tiles, ((0, None, None, 15), (None,) * 4)), 2 ** 7)
        self.assertEqual(count_fills(tiles, ((0, None, None, 15), (15, None, None, None))), 0)
        self.assertEqual(count_fills(tiles, ((0, None, 15), (None, None, None))), 2 ** 4)
        self.assertEqual(fill(tiles, ((0, None), (None, 0)), 0), ((0, 0), (0, 0)))
        self.assertEqual(fill(tiles, ((0, None), (None, 0)), 3), ((0, 4), (1, 0)))

    def test_five_tiles_that_all_fit_in_a_row(self):
        chance = Random(4)
        for columns in range(1, 9):
            self.assertNumbered(FREE, empty(1, columns), 5 ** columns, chance)
        self.assertNumbered(FREE, empty(2, 4), 5 ** 4, chance)

    def test_columns_that_go_by_themselves(self):
        chance = Random(5)
        for rows, columns in EIGHT:
            each = len(plain_fills(ROWS, empty(rows, 1)))
            self.assertNumbered(ROWS, empty(rows, columns), each ** columns, chance)

    def test_no_fill_at_all(self):
        self.assertEqual(count_fills(STAIRS, empty(4, 2)), 0)
        self.assertEqual(count_fills(STAIRS, empty(5, 1)), 0)
        self.assertEqual(count_fills(STAIRS, empty(3, 2)), 4)
        with self.assertRaises(NoFill):
            fill(STAIRS, empty(4, 2), 0)

    def test_some_sets_of_five(self):
        chance = Random(6)
        filled = 0
        for _ in range(60):
            tiles = some_set(chance, 5, 2)
            rows, columns = chance.choice(((2, 4), (4, 2), (1, 6), (6, 1), (2, 3), (3, 2)))
            floor = some_floor(chance, tiles, rows, columns, 0.95)
            many = count_fills(tiles, floor)
            if many > 0:
                filled += 1
                self.assertNumbered(tiles, floor, many, chance)
        self.assertGreater(filled, 15)

    def test_a_whole_floor_of_sixteen_places_is_asked(self):
        self.assertIs(is_fill(FREE, ((None,) * 4,) * 4, ((0,) * 4,) * 4), True)
        self.assertIs(is_right(FREE, ((0,) * 4,) * 4), True)
        self.assertIs(is_fill(FREE, empty(4, 4), ((0,) * 4,) * 3 + ((0, 0, 1, 0),)), False)


if __name__ == "__main__":
    unittest.main()
