"""Turned and joined: 5.1, 5.2, 0.2 (a) and (e), and 0.3 as far as it speaks of them."""

import copy
import unittest
from itertools import product
from random import Random

from floorfits.counting import count_fills
from floorfits.errors import Unlike
from floorfits.floors import clashes, edges_of, is_floor, is_right, is_set, size_of
from floorfits.mending import cost_of, least_cost
from floorfits.turning import (
    below, beside, mirrored_floor, mirrored_set, part, rolled, turned_floor, turned_set,
)
from tests.plain import (
    EIGHT, FREE, LONE, PAIR, ROWS, SIXTEEN, STAIRS, bare, grown_fills, refusal, sixteen, some_floor, some_pairs,
    some_set, some_weights,
)

FLOOR = ((0, 1, 2), (3, None, 4))


def sets_for_turning():
    chance = Random(61)
    return (LONE, PAIR, FREE, ROWS, STAIRS, sixteen()) + tuple(some_set(chance, 5, 9) for _ in range(20))


def some_floors(seed, sizes=SIXTEEN, blank=0.4):
    chance = Random(seed)
    for rows, columns in sizes:
        yield some_floor(chance, FREE, rows, columns, blank)


def times(turn, thing, many):
    for _ in range(many):
        thing = turn(thing)
    return thing


class Turned(unittest.TestCase):
    def test_turned_set(self):
        # West is north then, north is east, east is south, south is west.
        self.assertEqual(turned_set(((1, 2, 3, 4),)), ((4, 1, 2, 3),))
        self.assertEqual(turned_set(((0, 1, 2, 3), (8, 0, 0, 0))), ((3, 0, 1, 2), (0, 8, 0, 0)))

    def test_turned_floor(self):
        self.assertEqual(turned_floor(((0, 1), (2, 3))), ((2, 0), (3, 1)))
        self.assertEqual(turned_floor(FLOOR), ((3, 0), (None, 1), (4, 2)))
        self.assertEqual(turned_floor(((0, 1, 2),)), ((0,), (1,), (2,)))
        self.assertEqual(turned_floor(((0,), (1,), (2,))), ((2, 1, 0),))
        self.assertEqual(turned_floor(((None,),)), ((None,),))

    def test_mirrored_set(self):
        self.assertEqual(mirrored_set(((1, 2, 3, 4),)), ((1, 4, 3, 2),))
        self.assertEqual(mirrored_set(((0, 1, 2, 3), (8, 0, 7, 0))), ((0, 3, 2, 1), (8, 0, 7, 0)))

    def test_mirrored_floor(self):
        self.assertEqual(mirrored_floor(((0, 1), (2, 3))), ((1, 0), (3, 2)))
        self.assertEqual(mirrored_floor(FLOOR), ((2, 1, 0), (4, None, 3)))
        self.assertEqual(mirrored_floor(((0,), (1,))), ((0,), (1,)))
        self.assertEqual(mirrored_floor(((None, 1),)), ((1, None),))

    def test_sets_stay_sets(self):
        for tiles in sets_for_turning():
            for told in (turned_set(tiles), mirrored_set(tiles)):
                self.assertIs(is_set(told), True)
                self.assertEqual(len(told), len(tiles))

    def test_they_lead_back(self):
        for tiles in sets_for_turning():
            self.assertEqual(times(turned_set, tiles, 4), tiles)
            self.assertEqual(times(mirrored_set, tiles, 2), tiles)
            self.assertEqual(turned_set(mirrored_set(turned_set(tiles))), mirrored_set(tiles))
        self.assertNotEqual(times(turned_set, LONE, 2), LONE)
        for floor in some_floors(62):
            self.assertEqual(times(turned_floor, floor, 4), floor)
            self.assertEqual(times(mirrored_floor, floor, 2), floor)
            self.assertEqual(turned_floor(mirrored_floor(turned_floor(floor))), mirrored_floor(floor))

    def test_floors_against_plain_words(self):
        for floor in some_floors(63):
            rows, columns = len(floor), len(floor[0])
            told = turned_floor(floor)
            self.assertIs(is_floor(FREE, told), True)
            self.assertEqual(size_of(told), (columns, rows))
            self.assertEqual(told[0], tuple(floor[row][0] for row in range(rows - 1, -1, -1)))
            for r, c in product(range(rows), range(columns)):
                self.assertEqual(told[c][rows - 1 - r], floor[r][c])
            told = mirrored_floor(floor)
            self.assertIs(is_floor(FREE, told), True)
            self.assertEqual(size_of(told), (rows, columns))
            for r, c in product(range(rows), range(columns)):
                self.assertEqual(told[r][columns - 1 - c], floor[r][c])

    def test_as_many_fills_and_clashes(self):
        seen = []
        for blank in (0, 0.3, 0.8, 1):
            for tiles, floor in some_pairs(64, 50, EIGHT, blank, colours=2):
                many = count_fills(tiles, floor)
                seen.append((many > 1, len(clashes(tiles, floor)) > 1))
                for told in (
                    (turned_set(tiles), turned_floor(floor)), (mirrored_set(tiles), mirrored_floor(floor)),
                ):
                    self.assertEqual(count_fills(*told), many)
                    self.assertEqual(len(clashes(*told)), len(clashes(tiles, floor)))
                    self.assertIs(is_right(*told), is_right(tiles, floor))
        self.assertIn((True, False), seen)
        self.assertIn((False, True), seen)

    def test_the_fills_are_those_turned(self):
        for tiles, floor in some_pairs(65, 40, EIGHT, 0.8, most=4, colours=2):
            fills = grown_fills(tiles, floor)
            turned = grown_fills(turned_set(tiles), turned_floor(floor))
            self.assertEqual(sorted(turned_floor(whole) for whole in fills), turned)
            mirrored = grown_fills(mirrored_set(tiles), mirrored_floor(floor))
            self.assertEqual(sorted(mirrored_floor(whole) for whole in fills), mirrored)

    def test_the_sixteen_and_sixteen_places(self):
        tiles = sixteen()
        chance = Random(66)
        for _ in range(10):
            floor = some_floor(chance, tiles, 4, 4, 0.2)
            many = len(clashes(tiles, floor))
            self.assertGreater(many, 0)
            self.assertEqual(len(clashes(turned_set(tiles), turned_floor(floor))), many)
            self.assertEqual(len(clashes(mirrored_set(tiles), mirrored_floor(floor))), many)

    def test_weights_are_taken_in_the_same_way(self):
        self.assertEqual(turned_floor(((5, 10), (0, 77))), ((0, 5), (77, 10)))
        self.assertEqual(mirrored_floor(((5, 10), (0, 77))), ((10, 5), (77, 0)))
        chance = Random(67)
        for tiles, floor in some_pairs(68, 40, EIGHT, 0.3, colours=2):
            rows, columns = len(floor), len(floor[0])
            weights = some_weights(chance, rows, columns, 9)
            whole = some_floor(chance, tiles, rows, columns, 0)
            cost, least = cost_of(floor, weights, whole), least_cost(tiles, floor, weights)
            for set_by, by in ((turned_set, turned_floor), (mirrored_set, mirrored_floor)):
                self.assertEqual(cost_of(by(floor), by(weights), by(whole)), cost)
                self.assertEqual(least_cost(set_by(tiles), by(floor), by(weights)), least)

    def test_kinds(self):
        for told in (turned_set(PAIR), mirrored_set(PAIR), turned_floor(FLOOR), mirrored_floor(FLOOR)):
            self.assertIsInstance(told, tuple)
            self.assertTrue(all(isinstance(row, tuple) for row in told))


class Joined(unittest.TestCase):
    def test_beside(self):
        self.assertEqual(beside(((0, 1), (2, None)), ((3,), (4,))), ((0, 1, 3), (2, None, 4)))
        self.assertEqual(beside(((3,), (4,)), ((0, 1), (2, None))), ((3, 0, 1), (4, 2, None)))
        self.assertEqual(beside(((0,),), ((1,),)), ((0, 1),))

    def test_below(self):
        self.assertEqual(below(((0, 1), (2, None)), ((3, 4),)), ((0, 1), (2, None), (3, 4)))
        self.assertEqual(below(((3, 4),), ((0, 1), (2, None))), ((3, 4), (0, 1), (2, None)))
        self.assertEqual(below(((0,),), ((1,),)), ((0,), (1,)))

    def test_floors_of_unlike_sizes(self):
        chance = Random(71)
        for size, other_size in product(SIXTEEN, repeat=2):
            one = some_floor(chance, FREE, *size)
            other = some_floor(chance, FREE, *other_size)
            if size[0] == other_size[0]:
                told = beside(one, other)
                self.assertEqual(told, tuple(row + more for row, more in zip(one, other)))
                self.assertEqual(part(told, 0, 0, *size), one)
                self.assertEqual(part(told, 0, size[1], *other_size), other)
            else:
                self.assertIs(refusal(beside, one, other), Unlike)
            if size[1] == other_size[1]:
                told = below(one, other)
                self.assertEqual(told, one + other)
                self.assertEqual(part(told, 0, 0, *size), one)
                self.assertEqual(part(told, size[0], 0, *other_size), other)
            else:
                self.assertIs(refusal(below, one, other), Unlike)

    def test_more_than_a_floor_may_have_is_not_refused(self):
        self.assertEqual(beside(bare(2, 6), bare(2, 6)), bare(2, 12))
        self.assertEqual(below(bare(6, 2), bare(1, 2)), bare(7, 2))

    def test_turned_they_are_the_other_one(self):
        for one, other in zip(some_floors(72), some_floors(73)):
            self.assertEqual(turned_floor(beside(one, other)), below(turned_floor(one), turned_floor(other)))
            self.assertEqual(turned_floor(below(one, other)), beside(turned_floor(other), turned_floor(one)))
            self.assertEqual(mirrored_floor(beside(one, other)), beside(mirrored_floor(other), mirrored_floor(one)))

    def test_fills_are_couples_whose_sides_fit(self):
        seen = []
        for tiles in (FREE, PAIR, LONE, ROWS) + tuple(some_set(Random(seed), 5, 2) for seed in range(12)):
            for rows, columns, more in ((1, 1, 1), (1, 2, 1), (1, 1, 3), (2, 1, 1), (2, 1, 2), (2, 2, 1), (3, 1, 1)):
                ones, others = grown_fills(tiles, bare(rows, columns)), grown_fills(tiles, bare(rows, more))
                starts = [edges_of(tiles, whole)[3] for whole in others]
                many = sum(starts.count(edges_of(tiles, whole)[1]) for whole in ones)
                self.assertEqual(count_fills(tiles, beside(bare(rows, columns), bare(rows, more))), many)
                ones, others = grown_fills(tiles, bare(columns, rows)), grown_fills(tiles, bare(more, rows))
                starts = [edges_of(tiles, whole)[0] for whole in others]
                down = sum(starts.count(edges_of(tiles, whole)[2]) for whole in ones)
                self.assertEqual(count_fills(tiles, below(bare(columns, rows), bare(more, rows))), down)
                seen.extend((many, down))
        self.assertIn(0, seen)
        self.assertGreater(max(seen), 100)

    def test_fills_of_joined_floors_with_tiles_laid(self):
        chance = Random(74)
        for tiles, one in some_pairs(75, 60, ((1, 2), (2, 1), (2, 2), (1, 3), (3, 1)), 0.7, colours=2):
            other = some_floor(chance, tiles, len(one), 2 if len(one) < 3 else 1, 0.7)
            starts = [edges_of(tiles, whole)[3] for whole in grown_fills(tiles, other)]
            many = sum(starts.count(edges_of(tiles, whole)[1]) for whole in grown_fills(tiles, one))
            self.assertEqual(count_fills(tiles, beside(one, other)), many)


class Parts(unittest.TestCase):
    def test_by_hand(self):
        floor = ((0, 1, 2), (3, 4, None), (1, 2, 3))
        self.assertEqual(part(floor, 0, 0, 3, 3), floor)
        self.assertEqual(part(floor, 1, 1, 1, 1), ((4,),))
        self.assertEqual(part(floor, 0, 1, 2, 2), ((1, 2), (4, None)))
        self.assertEqual(part(floor, 2, 0, 1, 3), ((1, 2, 3),))
        self.assertEqual(part(floor, 0, 2, 3, 1), ((2,), (None,), (3,)))

    def test_beyond_the_floor(self):
        floor = ((0, 1, 2), (3, 4, None), (1, 2, 3))
        self.assertEqual(part(floor, 1, 1, 6, 6), ((4, None), (2, 3)))
        self.assertEqual(part(floor, 2, 2, 2, 1), ((3,),))
        self.assertEqual(part(floor, 0, 2, 1, 9), ((2,),))
        self.assertEqual(part(floor, 0, 0, 100, 100), floor)
        self.assertEqual(part(floor, 3, 0, 1, 1), ())
        self.assertEqual(part(floor, 9, 9, 1, 1), ())
        self.assertEqual(part(floor, 1, 3, 9, 1), ((), ()))
        self.assertEqual(part(floor, 0, 0, 0, 2), ())
        self.assertEqual(part(floor, 0, 0, 2, 0), ((), ()))

    def test_below_0_nothing_is_counted_from_the_end(self):
        floor = ((0, 1, 2), (3, 4, None), (1, 2, 3))
        self.assertEqual(part(floor, -1, -1, 2, 3), ((0, 1),))
        self.assertEqual(part(floor, -3, 0, 2, 3), ())
        self.assertEqual(part(floor, 0, 0, -1, 3), ())
        self.assertEqual(part(floor, 0, 1, 1, -1), ((),))

    def test_against_plain_words(self):
        for floor in some_floors(81):
            rows, columns = len(floor), len(floor[0])
            for top, left in product(range(rows), range(columns)):
                for many, wide in product((1, 2, 3, 7), repeat=2):
                    told = part(floor, top, left, many, wide)
                    wanted = tuple(
                        tuple(floor[r][c] for c in range(columns) if left <= c < left + wide)
                        for r in range(rows) if top <= r < top + many
                    )
                    self.assertEqual(told, wanted)
                    self.assertIs(is_floor(FREE, told), True)

    def test_parts_of_right_floors_are_right(self):
        seen = 0
        for tiles, size in ((PAIR, (3, 3)), (ROWS, (2, 3)), (sixteen(), (2, 2))):
            for floor in grown_fills(tiles, bare(*size))[::7]:
                for top, left, many, wide in product(range(size[0]), range(size[1]), (1, 2, 3), (1, 2, 3)):
                    seen += 1
                    self.assertIs(is_right(tiles, part(floor, top, left, many, wide)), True)
        self.assertGreater(seen, 100)

    def test_weights_are_taken_in_the_same_way(self):
        self.assertEqual(part(((10, 20, 30), (0, 50, 60)), 0, 1, 2, 5), ((20, 30), (50, 60)))
        chance = Random(82)
        for floor in some_floors(83, blank=0.2):
            rows, columns = len(floor), len(floor[0])
            weights, whole = some_weights(chance, rows, columns, 9), some_floor(chance, FREE, rows, columns, 0)
            for column in range(1, columns):
                costs = [
                    cost_of(*(part(thing, 0, left, rows, wide) for thing in (floor, weights, whole)))
                    for left, wide in ((0, column), (column, columns))
                ]
                self.assertEqual(sum(costs), cost_of(floor, weights, whole))


class Rolled(unittest.TestCase):
    def test_by_hand(self):
        floor = ((0, 1, 2), (3, 4, None))
        self.assertEqual(rolled(floor, 0), floor)
        self.assertEqual(rolled(floor, 1), ((2, 0, 1), (None, 3, 4)))
        self.assertEqual(rolled(floor, 2), ((1, 2, 0), (4, None, 3)))
        self.assertEqual(rolled(floor, 3), floor)
        self.assertEqual(rolled(floor, 4), ((2, 0, 1), (None, 3, 4)))
        self.assertEqual(rolled(floor, -1), ((1, 2, 0), (4, None, 3)))
        self.assertEqual(rolled(floor, -2), ((2, 0, 1), (None, 3, 4)))
        self.assertEqual(rolled(floor, -4), ((1, 2, 0), (4, None, 3)))

    def test_one_column(self):
        for by in (-3, -1, 0, 1, 5):
            self.assertEqual(rolled(((0,), (None,), (2,)), by), ((0,), (None,), (2,)))

    def test_any_whole_number(self):
        floor = ((0, 1, 2, 3),)
        self.assertEqual(rolled(floor, 10 ** 30), floor)
        self.assertEqual(rolled(floor, 10 ** 30 + 1), ((3, 0, 1, 2),))
        self.assertEqual(rolled(floor, -(10 ** 30) - 1), ((1, 2, 3, 0),))

    def test_against_plain_words(self):
        for floor in some_floors(91):
            rows, columns = len(floor), len(floor[0])
            for by in range(-2 * columns - 1, 2 * columns + 2):
                told = rolled(floor, by)
                self.assertIs(is_floor(FREE, told), True)
                for r, c in product(range(rows), range(columns)):
                    self.assertEqual(told[r][(c + by) % columns], floor[r][c])
                self.assertEqual(rolled(told, -by), floor)
                self.assertEqual(rolled(told, 2), rolled(floor, by + 2))


class Kept(unittest.TestCase):
    def test_what_is_handed_in_is_as_it_was(self):
        kept = (PAIR, FLOOR, ((1, 2, 3), (4, 5, 6)), ((0, 1),))
        before = copy.deepcopy(kept)
        tiles, floor, weights, short = kept
        for _ in range(2):
            self.assertEqual(turned_set(tiles), ((1, 0, 1, 0), (0, 1, 1, 0)))
            self.assertEqual(mirrored_set(tiles), ((0, 1, 0, 1), (1, 0, 0, 1)))
            self.assertEqual(turned_floor(floor), ((3, 0), (None, 1), (4, 2)))
            self.assertEqual(mirrored_floor(weights), ((3, 2, 1), (6, 5, 4)))
            self.assertEqual(beside(floor, weights), ((0, 1, 2, 1, 2, 3), (3, None, 4, 4, 5, 6)))
            self.assertEqual(below(floor, floor), FLOOR + FLOOR)
            self.assertEqual(part(floor, 1, 1, 1, 2), ((None, 4),))
            self.assertEqual(rolled(floor, 1), ((2, 0, 1), (4, 3, None)))
            self.assertIs(refusal(beside, floor, short), Unlike)
            self.assertIs(refusal(below, floor, short), Unlike)
        self.assertEqual(kept, before)


if __name__ == "__main__":
    unittest.main()
