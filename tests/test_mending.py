"""Mended: 4.1, 4.2, 0.2 (d), and 0.3 as far as it speaks of them."""

import copy
import unittest
from random import Random

from floorfits.counting import count_fills
from floorfits.errors import NoFill, Unlike
from floorfits.floors import is_floor, is_right
from floorfits.mending import cost_of, least_cost, mended
from tests.plain import (
    BOARD, EIGHT, FREE, LONE, PAIR, ROWS, SMALL, STAIRS, bare, grown_fills, laid, plain_cost, plain_fills, refusal,
    sixteen, some_floor, some_pairs, some_set, some_weights,
)

TWO = ((0, 0, 0, 0), (1, 1, 1, 1))
SIZES = ((1, 1), (1, 2), (2, 1), (2, 2), (2, 3), (3, 2), (1, 3), (3, 1), (4, 4), (1, 6))


def alike(rows, columns, weight):
    return ((weight,) * columns,) * rows


class Costs(unittest.TestCase):
    def test_by_hand(self):
        floor = ((0, None), (2, 3))
        weights = ((1, 10), (100, 1000))
        self.assertEqual(cost_of(floor, weights, ((0, 0), (2, 3))), 0)
        self.assertEqual(cost_of(floor, weights, ((1, 0), (2, 3))), 1)
        self.assertEqual(cost_of(floor, weights, ((0, 4), (0, 3))), 100)
        self.assertEqual(cost_of(floor, weights, ((3, 1), (0, 2))), 1101)
        self.assertEqual(cost_of(floor, weights, floor), 0)

    def test_where_the_other_has_no_tile(self):
        self.assertEqual(cost_of(((0, 1),), ((3, 5),), ((None, 1),)), 3)
        self.assertEqual(cost_of(((0, 1),), ((3, 5),), bare(1, 2)), 8)

    def test_where_the_floor_has_no_tile(self):
        self.assertEqual(cost_of(bare(2, 2), alike(2, 2, 7), ((0, 1), (None, 2))), 0)
        self.assertEqual(cost_of(((None, 1),), ((9, 4),), ((0, 1),)), 0)
        self.assertEqual(cost_of(((None, 1),), ((9, 4),), ((0, 0),)), 4)

    def test_weights_of_0(self):
        self.assertEqual(cost_of(((0, 1),), ((0, 0),), ((1, 0),)), 0)
        self.assertEqual(cost_of(((0, 1),), ((0, 6),), ((1, 0),)), 6)
        self.assertIs(isinstance(cost_of(((0,),), ((0,),), ((1,),)), bool), False)

    def test_number_0_is_a_tile(self):
        self.assertEqual(cost_of(((0,),), ((5,),), ((1,),)), 5)
        self.assertEqual(cost_of(((0,),), ((5,),), ((None,),)), 5)

    def test_great_weights(self):
        self.assertEqual(cost_of(((0, 1),), ((10 ** 30, 1),), ((1, 0),)), 10 ** 30 + 1)

    def test_against_plain_words(self):
        chance = Random(51)
        for rows, columns in SIZES:
            for _ in range(10):
                floor, whole = (some_floor(chance, FREE[:3], rows, columns, 0.3) for _ in range(2))
                weights = some_weights(chance, rows, columns, 9)
                self.assertEqual(cost_of(floor, weights, whole), plain_cost(floor, weights, whole))

    def test_unlike(self):
        for size in SIZES:
            for other in SIZES:
                floor, weights, whole = bare(*size), alike(*other, 1), ((0,) * other[1],) * other[0]
                wanted = None if size == other else Unlike
                self.assertIs(refusal(cost_of, floor, alike(*size, 1), whole), wanted)
                self.assertIs(refusal(cost_of, floor, weights, ((0,) * size[1],) * size[0]), wanted)
                self.assertIs(refusal(cost_of, floor, weights, whole), wanted)

    def test_unlike_with_as_many_places(self):
        self.assertIs(refusal(cost_of, bare(1, 4), alike(2, 2, 1), bare(1, 4)), Unlike)
        self.assertIs(refusal(cost_of, bare(1, 4), alike(1, 4, 1), bare(4, 1)), Unlike)
        self.assertIs(refusal(cost_of, bare(4, 1), alike(1, 4, 1), bare(1, 4)), Unlike)


class Told(unittest.TestCase):
    def assertLeast(self, tiles, floor, weights, whole_ones):
        """By all right floors of the size, however they were found."""
        costs = [plain_cost(floor, weights, whole) for whole in whole_ones]
        if costs == []:
            self.assertIsNone(least_cost(tiles, floor, weights))
            self.assertIs(refusal(mended, tiles, floor, weights), NoFill)
            return None
        wanted = (min(costs), costs.count(min(costs)))
        self.assertEqual(least_cost(tiles, floor, weights), wanted)
        told = mended(tiles, floor, weights)
        self.assertIn(told, whole_ones)
        self.assertIs(is_right(tiles, told), True)
        self.assertIs(is_floor(tiles, told), True)
        self.assertEqual(cost_of(floor, weights, told), wanted[0])
        return wanted

    def assertTold(self, tiles, floor, weights):
        return self.assertLeast(tiles, floor, weights, plain_fills(tiles, bare(len(floor), len(floor[0]))))


class Least(Told):
    def test_by_hand(self):
        self.assertEqual(least_cost(TWO, ((0, 1),), ((1, 3),)), (1, 1))
        self.assertEqual(mended(TWO, ((0, 1),), ((1, 3),)), ((1, 1),))
        self.assertEqual(least_cost(TWO, ((0, 1),), ((3, 1),)), (1, 1))
        self.assertEqual(mended(TWO, ((0, 1),), ((3, 1),)), ((0, 0),))
        self.assertEqual(least_cost(TWO, ((0, 1, 1),), ((3, 1, 1),)), (2, 1))
        self.assertEqual(mended(TWO, ((0, 1, 1),), ((3, 1, 1),)), ((0, 0, 0),))
        self.assertEqual(least_cost(TWO, ((0, 1, None),), ((3, 2, 5),)), (2, 1))

    def test_several_that_cost_the_least(self):
        self.assertEqual(self.assertTold(TWO, ((0, 1),), ((2, 2),)), (2, 2))
        self.assertEqual(self.assertTold(TWO, ((0, None), (None, 1)), alike(2, 2, 1)), (1, 2))
        self.assertEqual(self.assertTold(FREE, ((0, 0), (1, 1)), alike(2, 2, 1)), (2, 1))
        self.assertEqual(self.assertTold(BOARD, ((0, 0), (0, 0)), alike(2, 2, 1)), (2, 2))

    def test_several_with_the_same_last_row(self):
        # Below is tile 0 alone, above are any: five that differ in the first row alone.
        self.assertEqual(self.assertTold(FREE, ((None, 2), (0, 0)), alike(2, 2, 1)), (0, 5))
        self.assertEqual(self.assertTold(FREE, ((None, None), (3, None)), alike(2, 2, 4)), (4, 25))
        self.assertEqual(self.assertTold(FREE, ((None, None), (1, 0)), ((0, 0), (0, 9))), (0, 25))
        self.assertEqual(self.assertTold(FREE, ((3,), (None,), (0,)), ((0,), (1,), (1,))), (0, 5))

    def test_several_of_which_some_begin_at_more_cost(self):
        # What begins dearly may end cheaply, and the other way round.
        tiles = ((0, 1, 0, 0), (0, 2, 0, 0), (0, 0, 0, 1), (0, 0, 0, 2))
        self.assertEqual(self.assertTold(tiles, ((0, 3),), ((1, 4),)), (1, 1))
        self.assertEqual(self.assertTold(tiles, ((0, 3),), ((4, 1),)), (1, 1))
        self.assertEqual(self.assertTold(tiles, ((0, 3),), ((4, 4),)), (4, 2))

    def test_no_right_floor(self):
        for tiles, size in ((LONE, (1, 2)), (LONE, (2, 1)), (LONE, (2, 2)), (STAIRS, (4, 1)), (STAIRS, (4, 2))):
            for floor in (bare(*size), ((0,) * size[1],) * size[0]):
                for weight in (0, 1):
                    self.assertIsNone(least_cost(tiles, floor, alike(*size, weight)))
                    self.assertIs(refusal(mended, tiles, floor, alike(*size, weight)), NoFill)

    def test_none_just_where_there_is_no_right_floor(self):
        seen = []
        for tiles, floor in some_pairs(52, 120, EIGHT, 0.5, most=3, colours=2):
            size = (len(floor), len(floor[0]))
            has_none = count_fills(tiles, bare(*size)) == 0
            seen.append(has_none)
            self.assertIs(least_cost(tiles, floor, alike(*size, 1)) is None, has_none)
            self.assertIs(refusal(mended, tiles, floor, alike(*size, 1)), NoFill if has_none else None)
        self.assertIn(True, seen)
        self.assertIn(False, seen)

    def test_unlike_ahead_of_no_fill(self):
        for size in SIZES[:8]:
            for other in SIZES:
                for tiles in (FREE, LONE):
                    if size != other:
                        self.assertIs(refusal(least_cost, tiles, bare(*size), alike(*other, 1)), Unlike)
                        self.assertIs(refusal(mended, tiles, bare(*size), alike(*other, 1)), Unlike)
        self.assertIs(refusal(mended, LONE, bare(1, 4), alike(2, 2, 0)), Unlike)
        self.assertIs(refusal(least_cost, FREE, ((0, 0),), ((1,), (1,))), Unlike)

    def test_a_right_floor_costs_nothing(self):
        for tiles, size in ((PAIR, (2, 2)), (TWO, (2, 2)), (FREE, (1, 3)), (BOARD, (2, 3)), (ROWS, (2, 2))):
            for floor in plain_fills(tiles, bare(*size))[:20]:
                self.assertEqual(least_cost(tiles, floor, alike(*size, 2)), (0, 1))
                self.assertEqual(mended(tiles, floor, alike(*size, 2)), floor)

    def test_without_tiles_all_right_floors_cost_nothing(self):
        for tiles, size in ((PAIR, (2, 2)), (FREE, (1, 3)), (BOARD, (2, 3)), (ROWS, (2, 2)), (TWO, (1, 1))):
            many = count_fills(tiles, bare(*size))
            self.assertEqual(least_cost(tiles, bare(*size), alike(*size, 3)), (0, many))
            self.assertIs(is_right(tiles, mended(tiles, bare(*size), alike(*size, 3))), True)

    def test_one_place(self):
        self.assertEqual(self.assertTold(FREE, ((None,),), ((4,),)), (0, 5))
        self.assertEqual(self.assertTold(FREE, ((3,),), ((4,),)), (0, 1))
        self.assertEqual(self.assertTold(FREE, ((3,),), ((0,),)), (0, 5))
        self.assertEqual(self.assertTold(LONE, ((0,),), ((0,),)), (0, 1))
        self.assertEqual(mended(FREE, ((3,),), ((4,),)), ((3,),))

    def test_weights_of_0(self):
        for tiles, floor in ((TWO, ((0, 1), (1, 0))), (FREE, ((4, 3), (2, 1))), (BOARD, ((0, 0),))):
            size = (len(floor), len(floor[0]))
            told = self.assertTold(tiles, floor, alike(*size, 0))
            self.assertEqual(told, (0, count_fills(tiles, bare(*size))))
        self.assertEqual(self.assertTold(TWO, ((0, 1),), ((0, 7),)), (0, 1))

    def test_a_number_that_the_set_has_not_has_to_go(self):
        self.assertEqual(least_cost(FREE, ((5,),), ((4,),)), (4, 5))
        self.assertEqual(least_cost(FREE, ((-1, 2),), ((4, 9),)), (4, 5))

    def test_fills_are_told_where_there_are_some(self):
        for tiles, floor in some_pairs(53, 80, SMALL, 0.7, colours=2):
            size = (len(floor), len(floor[0]))
            many = count_fills(tiles, floor)
            if many > 0:
                self.assertEqual(least_cost(tiles, floor, alike(*size, 1)), (0, many))

    def test_against_a_plain_trial(self):
        chance = Random(54)
        seen = []
        for blank in (0, 0.3, 0.6, 1):
            for tiles, floor in some_pairs(55, 70, SMALL, blank, colours=2):
                for most in (1, 3, 50):
                    seen.append(self.assertTold(tiles, floor, some_weights(chance, len(floor), len(floor[0]), most)))
        self.assertIn(None, seen)
        told = [one for one in seen if one is not None]
        self.assertGreater(len([one for one in told if one[0] > 0 and one[1] == 1]), 50)
        self.assertGreater(len([one for one in told if one[0] > 0 and one[1] > 1]), 50)
        self.assertGreater(len([one for one in told if one[0] == 0]), 50)

    def test_kinds(self):
        told = least_cost(FREE, ((3, None),), ((4, 0),))
        self.assertIsInstance(told, tuple)
        self.assertEqual([isinstance(number, bool) for number in told], [False, False])
        told = mended(FREE, ((3, None), (1, 1)), alike(2, 2, 1))
        self.assertIsInstance(told, tuple)
        self.assertEqual([isinstance(row, tuple) for row in told], [True, True])


class Bounds(Told):
    """Floors of 8 places, with sets of 5 tiles and with the sixteen."""

    def test_the_sixteen(self):
        tiles = sixteen()
        chance = Random(56)
        for rows, columns in ((2, 4), (4, 2), (1, 6), (6, 1), (2, 3)):
            whole_ones = grown_fills(tiles, bare(rows, columns))
            for blank, most in ((0, 1), (0.2, 5), (0.5, 2)):
                floor = some_floor(chance, tiles, rows, columns, blank)
                weights = some_weights(chance, rows, columns, most)
                self.assertLeast(tiles, floor, weights, whole_ones)
            self.assertEqual(least_cost(tiles, bare(rows, columns), alike(rows, columns, 1)), (0, len(whole_ones)))

    def test_five_tiles(self):
        chance = Random(57)
        seen = []
        for count in range(60):
            tiles = (FREE, ROWS, STAIRS)[count] if count < 3 else some_set(chance, 5, 2)
            rows, columns = chance.choice(((2, 4), (4, 2), (5, 1), (6, 1)))
            floor = some_floor(chance, tiles, rows, columns, 0.2)
            weights = some_weights(chance, rows, columns, 4)
            whole_ones = grown_fills(tiles, bare(rows, columns))
            seen.append(self.assertLeast(tiles, floor, weights, whole_ones))
        self.assertIn(None, seen)
        self.assertGreater(max(one[1] for one in seen if one is not None), 3)

    def test_a_row_that_all_fit_in(self):
        self.assertEqual(least_cost(FREE, bare(1, 6), alike(1, 6, 1)), (0, 5 ** 6))
        self.assertEqual(least_cost(FREE, ((0, 1, 2, 3, 4, 0),), alike(1, 6, 1)), (0, 1))
        self.assertEqual(least_cost(FREE, ((0, 1, 2, 3, 4, 0),), ((1, 0, 1, 0, 1, 0),)), (0, 125))
        self.assertEqual(least_cost(FREE, ((4,) * 4,) * 2, alike(2, 4, 3)), (12, 1))
        self.assertEqual(mended(FREE, ((4,) * 4,) * 2, alike(2, 4, 3)), ((4,) * 4, (0,) * 4))

    def test_no_less_and_as_many_by_just_so_much(self):
        floor = ((0, 1, 0, 1), (0, 0, 1, 1))
        self.assertEqual(least_cost(BOARD, floor, alike(2, 4, 1)), (2, 1))
        self.assertEqual(mended(BOARD, floor, alike(2, 4, 1)), ((0, 1, 0, 1), (1, 0, 1, 0)))


class Kept(unittest.TestCase):
    def test_what_is_handed_in_is_as_it_was(self):
        kept = (ROWS, ((0, 0, None), (0, None, 1)), ((1, 2, 3), (4, 5, 6)), ((0, 0, 0), (1, 1, 1)), ((1, 2),))
        before = copy.deepcopy(kept)
        tiles, floor, weights, whole, short = kept
        first = (cost_of(floor, weights, whole), least_cost(tiles, floor, weights), mended(tiles, floor, weights))
        self.assertIs(refusal(cost_of, floor, short, whole), Unlike)
        self.assertIs(refusal(least_cost, tiles, floor, short), Unlike)
        self.assertIs(refusal(mended, tiles, floor, short), Unlike)
        self.assertIs(refusal(mended, LONE, floor, weights), NoFill)
        self.assertEqual(first, (
            cost_of(floor, weights, whole), least_cost(tiles, floor, weights), mended(tiles, floor, weights),
        ))
        self.assertEqual(kept, before)
        self.assertEqual(laid(floor), [(0, 0), (0, 1), (1, 0), (1, 2)])


if __name__ == "__main__":
    unittest.main()
