"""Exchanges: 12.1, 0.2 (j), and 0.3 as far as it speaks of them."""

import copy
import unittest
from itertools import permutations, product
from random import Random

from floorfits.changing import exchanged, floor_by, replaced, set_by, unused
from floorfits.counting import count_fills
from floorfits.errors import NoPlace, NoTile
from floorfits.floors import clashes, is_floor, is_right, is_set, places_of
from tests.plain import (
    BOARD, EIGHT, EVERY, FREE, LONE, ODD, PAIR, ROWS, STAIRS, bare, changed, outside, plain_clashes, refusal, sixteen,
    some_floor, some_set, spoilt,
)

FLOOR = ((0, 1, None), (2, None, 4))
THREE = ((0, 1, 2, 3), (4, 5, 6, 7), (8, 0, 8, 0))


def some_floors(seed, tiles, blank=0.3, sizes=EVERY):
    chance = Random(seed)
    for rows, columns in sizes:
        yield some_floor(chance, tiles, rows, columns, blank)


def contrary(order):
    """The order that leads back: the number of each number's own place."""
    return tuple(order.index(number) for number in range(len(order)))


def some_orders(seed, many, each=6):
    chance = Random(seed)
    for _ in range(each):
        yield tuple(chance.sample(range(many), many))


class Exchanged(unittest.TestCase):
    def test_by_hand(self):
        self.assertEqual(exchanged(FREE, FLOOR, (0, 0), (1, 2)), ((4, 1, None), (2, None, 0)))
        self.assertEqual(exchanged(FREE, FLOOR, (0, 0), (0, 1)), ((1, 0, None), (2, None, 4)))
        self.assertEqual(exchanged(FREE, FLOOR, (0, 2), (1, 0)), ((0, 1, 2), (None, None, 4)))
        self.assertEqual(exchanged(FREE, FLOOR, (0, 2), (1, 1)), FLOOR)
        self.assertEqual(exchanged(FREE, FLOOR, (0, 1), (1, 1)), ((0, None, None), (2, 1, 4)))

    def test_against_plain_words(self):
        for floor in some_floors(1201, FREE, sizes=EVERY[::3]):
            for one, other in product(places_of(floor)[::2], places_of(floor)):
                told = exchanged(FREE, floor, one, other)
                wanted = changed(floor, one, floor[other[0]][other[1]])
                self.assertEqual(told, changed(wanted, other, floor[one[0]][one[1]]))
                self.assertEqual(told, exchanged(FREE, floor, other, one))
                self.assertEqual(exchanged(FREE, told, one, other), floor)
                self.assertIs(is_floor(FREE, told), True)

    def test_with_itself(self):
        for floor in some_floors(1202, FREE):
            for place in places_of(floor):
                self.assertEqual(exchanged(FREE, floor, place, place), floor)

    def test_places_outside(self):
        for floor in some_floors(1203, PAIR):
            for place in outside(floor):
                self.assertIs(refusal(exchanged, PAIR, floor, place, (0, 0)), NoPlace)
                self.assertIs(refusal(exchanged, PAIR, floor, (0, 0), place), NoPlace)
                self.assertIs(refusal(exchanged, PAIR, floor, place, place), NoPlace)


class Orders(unittest.TestCase):
    def test_by_hand(self):
        self.assertEqual(set_by(THREE, (2, 0, 1)), (THREE[2], THREE[0], THREE[1]))
        self.assertEqual(set_by(THREE, (0, 1, 2)), THREE)
        self.assertEqual(set_by(LONE, (0,)), LONE)
        self.assertEqual(floor_by(THREE, ((0, 1, 2, None),), (2, 0, 1)), ((1, 2, 0, None),))
        self.assertEqual(floor_by(THREE, ((0, 1, 2, None),), (0, 1, 2)), ((0, 1, 2, None),))
        self.assertEqual(floor_by(LONE, ((0,), (None,)), (0,)), ((0,), (None,)))

    def test_all_orders_of_small_sets(self):
        for tiles in (LONE, PAIR, THREE, BOARD, ROWS[:4], STAIRS):
            floors = list(some_floors(1211, tiles, sizes=EIGHT))
            for order in permutations(range(len(tiles))):
                told = set_by(tiles, order)
                self.assertIs(is_set(told), True)
                for place, number in enumerate(order):
                    self.assertEqual(told[place], tiles[number])
                self.assertEqual(set_by(told, contrary(order)), tiles)
                for floor in floors[::4]:
                    self.assertBy(tiles, floor, order)

    def assertBy(self, tiles, floor, order):
        other = set_by(tiles, order)
        told = floor_by(tiles, floor, order)
        self.assertIs(is_floor(other, told), True)
        for row, row_told in zip(floor, told, strict=True):
            for number, number_told in zip(row, row_told, strict=True):
                if number is None:
                    self.assertIsNone(number_told)
                else:
                    self.assertEqual(other[number_told], tiles[number])
        self.assertEqual(floor_by(other, told, contrary(order)), floor)
        self.assertEqual(clashes(other, told), plain_clashes(tiles, floor))
        self.assertIs(is_right(other, told), is_right(tiles, floor))

    def test_large_floors_and_the_sixteen(self):
        for tiles in (FREE, ROWS, sixteen()):
            for floor in some_floors(1212, tiles):
                for order in some_orders(1213, len(tiles), 2):
                    self.assertBy(tiles, floor, order)

    def test_as_many_fills(self):
        chance = Random(1214)
        seen = set()
        for rows, columns in EIGHT * 2:
            tiles = some_set(chance, 5, 2)
            floor = some_floor(chance, tiles, rows, columns, 0.8)
            many = count_fills(tiles, floor)
            seen.add(min(many, 2))
            for order in some_orders(1215, len(tiles), 4):
                self.assertEqual(count_fills(set_by(tiles, order), floor_by(tiles, floor, order)), many)
        self.assertEqual(seen, {0, 1, 2})

    def test_numbers_that_the_set_has_not_stay(self):
        self.assertEqual(floor_by(PAIR, ((0, 7, 1),), (1, 0)), ((1, 7, 0),))
        self.assertEqual(exchanged(PAIR, ((0, 7),), (0, 0), (0, 1)), ((7, 0),))

    def test_two_orders_one_behind_the_other(self):
        for one, other in zip(some_orders(1216, 5), some_orders(1217, 5)):
            whole = tuple(one[number] for number in other)
            self.assertEqual(set_by(set_by(ROWS, one), other), set_by(ROWS, whole))
            for floor in some_floors(1218, ROWS, sizes=EIGHT):
                told = floor_by(set_by(ROWS, one), floor_by(ROWS, floor, one), other)
                self.assertEqual(told, floor_by(ROWS, floor, whole))


class NoOrders(unittest.TestCase):
    def assertNoOrder(self, tiles, order):
        self.assertIs(refusal(set_by, tiles, order), NoTile, order)
        self.assertIs(refusal(floor_by, tiles, bare(2, 2), order), NoTile, order)
        self.assertIs(refusal(floor_by, tiles, ((0,),), order), NoTile, order)

    def test_all_short_tuples(self):
        for many in range(5):
            for order in product(range(-1, 4), repeat=many):
                if sorted(order) == [0, 1, 2]:
                    self.assertIs(refusal(set_by, THREE, order), None)
                    self.assertIs(refusal(floor_by, THREE, bare(1, 1), order), None)
                else:
                    self.assertNoOrder(THREE, order)

    def test_by_hand(self):
        for order in (
            (), (0,), (0, 1), (0, 1, 2, 3), (0, 1, 2, 0), (0, 1, 1), (0, 0, 0), (-1, 0, 1), (1, 2, 3), (0, 1, 99),
            (0, 1, -1), (-3, -2, -1), (0, 1, 10 ** 30), [0, 1, 2], [2, 1, 0], "012", (0, 1, 2.0),
        ):
            self.assertNoOrder(THREE, order)

    def test_truths_are_no_numbers(self):
        for order in ((0, True, 2), (False, 1, 2), (False, True, 2), (True, 0, 2), (2, 1, False)):
            self.assertNoOrder(THREE, order)
        self.assertNoOrder(PAIR, (0, True))
        self.assertNoOrder(PAIR, (True, False))
        self.assertNoOrder(LONE, (False,))
        self.assertNoOrder(LONE, (True,))

    def test_a_number_spoilt(self):
        for index in range(3):
            for thing in ODD:
                if thing == index and not isinstance(thing, bool):
                    continue
                self.assertNoOrder(THREE, spoilt((0, 1, 2), index, thing))

    def test_the_whole_spoilt(self):
        for thing in ODD + (0, 1, 2, "abc", ("0", "1", "2"), ((0, 1, 2),), ((0,), (1,), (2,)), [(0, 1, 2)]):
            self.assertNoOrder(THREE, thing)
            self.assertNoOrder(LONE, thing)

    def test_the_sixteen(self):
        self.assertIs(refusal(set_by, sixteen(), tuple(range(16))), None)
        self.assertNoOrder(sixteen(), tuple(range(15)))
        self.assertNoOrder(sixteen(), tuple(range(17)))
        self.assertNoOrder(sixteen(), tuple(range(1, 17)))
        self.assertNoOrder(sixteen(), tuple(range(15)) + (14,))


class Replaced(unittest.TestCase):
    def test_by_hand(self):
        floor = ((0, 1, None), (1, 1, 2))
        self.assertEqual(replaced(FREE, floor, 1, 4), ((0, 4, None), (4, 4, 2)))
        self.assertEqual(replaced(FREE, floor, 0, 1), ((1, 1, None), (1, 1, 2)))
        self.assertEqual(replaced(FREE, floor, None, 0), ((0, 1, 0), (1, 1, 2)))
        self.assertEqual(replaced(FREE, floor, 1, None), ((0, None, None), (None, None, 2)))
        self.assertEqual(replaced(FREE, floor, None, None), floor)
        self.assertEqual(replaced(FREE, floor, 2, 2), floor)

    def test_an_old_that_stands_nowhere(self):
        floor = ((0, 1), (1, 1))
        for old in (2, 3, 4, None, 5, -1, 99):
            for new in (0, 1, 4, None):
                self.assertEqual(replaced(FREE, floor, old, new), floor)

    def test_against_plain_words(self):
        for floor in some_floors(1221, FREE):
            for old, new in product((None, 0, 1, 4, 5, -1), (None, 0, 2, 4)):
                wanted = tuple(tuple(new if number == old else number for number in row) for row in floor)
                told = replaced(FREE, floor, old, new)
                self.assertEqual(told, wanted)
                self.assertIs(is_floor(FREE, told), True)

    def test_a_new_that_the_set_has_not(self):
        floor = ((0, None), (1, 1))
        for new in (2, 3, -1, -2, 99, True, False, "0", (), [], (0,)):
            # Where old stands, where it stands nowhere, and where the set has not even that.
            for old in (0, 1, None, 5, -1):
                self.assertIs(refusal(replaced, PAIR, floor, old, new), NoTile)
            self.assertIs(refusal(replaced, PAIR, ((0, 0),), 1, new), NoTile)
            self.assertIs(refusal(replaced, PAIR, bare(1, 1), 0, new), NoTile)
        self.assertIs(refusal(replaced, PAIR, floor, 2, 2), NoTile)

    def test_the_sixteen(self):
        self.assertEqual(replaced(sixteen(), ((15, 0), (None, 15)), 15, 10), ((10, 0), (None, 10)))
        self.assertIs(refusal(replaced, sixteen(), ((15,),), 15, 16), NoTile)


class Unused(unittest.TestCase):
    def test_by_hand(self):
        self.assertEqual(unused(FREE, FLOOR), [3])
        self.assertEqual(unused(FREE, bare(1, 1)), [0, 1, 2, 3, 4])
        self.assertEqual(unused(LONE, ((0, None),)), [])
        self.assertEqual(unused(PAIR, ((1,),)), [0])
        self.assertEqual(unused(sixteen(), ((3, 15), (None, 0))), [1, 2] + list(range(4, 15)))

    def test_against_plain_words(self):
        for tiles in (LONE, PAIR, FREE, sixteen()):
            for floor in some_floors(1231, tiles, 0.5):
                told = unused(tiles, floor)
                on = {number for row in floor for number in row}
                self.assertEqual(told, sorted(set(range(len(tiles))) - on))
                self.assertIsInstance(told, list)


class Kept(unittest.TestCase):
    def test_told_lists_are_new_ones(self):
        told = unused(FREE, ((0,),))
        told.append("more")
        told[0] = None
        self.assertEqual(unused(FREE, ((0,),)), [1, 2, 3, 4])

    def test_what_is_handed_in_is_as_it_was(self):
        kept = (THREE, ((0, 1), (None, 2)), (2, 0, 1), (1, 1), [0, 1, 2])
        before = copy.deepcopy(kept)
        tiles, floor, order, place, rows = kept
        for _ in range(2):
            self.assertEqual(exchanged(tiles, floor, (0, 0), place), ((2, 1), (None, 0)))
            self.assertEqual(set_by(tiles, order)[0], tiles[2])
            self.assertEqual(floor_by(tiles, floor, order), ((1, 2), (None, 0)))
            self.assertEqual(replaced(tiles, floor, None, 0), ((0, 1), (0, 2)))
            self.assertEqual(unused(tiles, floor), [])
            self.assertIs(refusal(set_by, tiles, rows), NoTile)
            self.assertIs(refusal(floor_by, tiles, floor, rows), NoTile)
            self.assertIs(refusal(exchanged, tiles, floor, place, (2, 2)), NoPlace)
        self.assertEqual(kept, before)


if __name__ == "__main__":
    unittest.main()
