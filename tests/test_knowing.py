"""What can stand: 3.1 to 3.4, 0.2 (b) and (c), and 0.3 as far as it speaks of them."""

import copy
import unittest
from random import Random

from floorfits.counting import count_fills, is_fill
from floorfits.errors import NoPlace
from floorfits.floors import is_floor, places_of
from floorfits.knowing import counts_at, differing, forced, is_stuck, may_stand, stuck, with_forced
from tests.plain import (
    BOARD, EIGHT, FREE, LONE, ROWS, SMALL, STAIRS, bare, changed, grown_fills, laid, outside, plain_fills, refusal,
    sixteen, some_floor, some_pairs, some_set,
)

TWO = ((0, 0, 0, 0), (1, 1, 1, 1))


def some_trials():
    """Floors with no tile laid, with some and with all, with many fills and with none."""
    for blank in (0, 0.3, 0.6, 0.8, 1):
        yield from some_pairs(41, 50, SMALL, blank, colours=2)
    yield from some_pairs(42, 40, EIGHT, 0.8, colours=2)


def plain_forced(floor, fills):
    found = []
    for r, row in enumerate(floor):
        for c, number in enumerate(row):
            numbers = {whole[r][c] for whole in fills}
            if number is None and len(numbers) == 1:
                found.append(((r, c), numbers.pop()))
    return found


def plain_is_stuck(tiles, floor):
    if plain_fills(tiles, floor):
        return False
    return all(plain_fills(tiles, changed(floor, place, None)) for place in laid(floor))


class Standing(unittest.TestCase):
    def assertStanding(self, tiles, floor, fills):
        for place in places_of(floor):
            numbers = [whole[place[0]][place[1]] for whole in fills]
            counts = [numbers.count(number) for number in range(len(tiles))]
            self.assertEqual(counts_at(tiles, floor, place), counts)
            self.assertEqual(may_stand(tiles, floor, place), sorted(set(numbers)))

    def test_by_hand(self):
        tiles = ((0, 1, 0, 0), (0, 0, 0, 1), (1, 1, 0, 1))
        self.assertEqual(counts_at(tiles, bare(1, 2), (0, 0)), [2, 1, 2])
        self.assertEqual(counts_at(tiles, bare(1, 2), (0, 1)), [1, 2, 2])
        self.assertEqual(counts_at(tiles, ((None, 1),), (0, 0)), [1, 0, 1])
        self.assertEqual(may_stand(tiles, ((None, 1),), (0, 0)), [0, 2])
        self.assertEqual(may_stand(tiles, bare(1, 2), (0, 1)), [0, 1, 2])

    def test_at_a_place_that_has_a_tile(self):
        tiles = ((0, 1, 0, 0), (0, 0, 0, 1), (1, 1, 0, 1))
        self.assertEqual(counts_at(tiles, ((None, 1),), (0, 1)), [0, 2, 0])
        self.assertEqual(may_stand(tiles, ((None, 1),), (0, 1)), [1])
        self.assertEqual(counts_at(FREE, ((3,),), (0, 0)), [0, 0, 0, 1, 0])
        self.assertEqual(may_stand(FREE, ((3,),), (0, 0)), [3])
        self.assertEqual(counts_at(FREE, ((0, None, 0),), (0, 0)), [5, 0, 0, 0, 0])

    def test_no_fill_at_all(self):
        for tiles, floor in ((LONE, bare(1, 2)), (TWO, ((0, 1),)), (TWO, ((0, None, 1),)), (STAIRS, bare(4, 1))):
            for place in places_of(floor):
                self.assertEqual(counts_at(tiles, floor, place), [0] * len(tiles))
                self.assertEqual(may_stand(tiles, floor, place), [])

    def test_a_number_that_the_set_has_not(self):
        for number in (-1, 5, 6, 16):
            for place in ((0, 0), (0, 1)):
                self.assertEqual(counts_at(FREE, ((number, None),), place), [0] * 5)
                self.assertEqual(may_stand(FREE, ((number, None),), place), [])

    def test_against_a_plain_trial(self):
        seen = []
        for blank in (0, 0.3, 0.6, 1):
            for tiles, floor in some_pairs(43, 60, SMALL, blank, colours=2):
                fills = plain_fills(tiles, floor)
                seen.append(len(fills))
                self.assertStanding(tiles, floor, fills)
        self.assertIn(0, seen)
        self.assertIn(1, seen)
        self.assertGreater(max(seen), 50)

    def test_all_numbers_together_have_all_fills(self):
        for tiles, floor in some_trials():
            for place in places_of(floor):
                self.assertEqual(sum(counts_at(tiles, floor, place)), count_fills(tiles, floor))

    def test_no_place(self):
        for tiles, floor in ((FREE, bare(2, 3)), (FREE, ((1,),)), (ROWS, ((0, 1, None),)), (LONE, bare(2, 2))):
            for place in outside(floor):
                self.assertIs(refusal(counts_at, tiles, floor, place), NoPlace)
                self.assertIs(refusal(may_stand, tiles, floor, place), NoPlace)
            for place in places_of(floor):
                self.assertIsNone(refusal(counts_at, tiles, floor, place))
                self.assertIsNone(refusal(may_stand, tiles, floor, place))

    def test_kinds(self):
        for tell in (counts_at, may_stand):
            told = tell(FREE, ((None, 0),), (0, 0))
            self.assertIsInstance(told, list)
            self.assertEqual([isinstance(number, bool) for number in told], [False] * 5)


class Forced(unittest.TestCase):
    def test_by_hand(self):
        self.assertEqual(forced(TWO, ((0, None), (None, None))), [((0, 1), 0), ((1, 0), 0), ((1, 1), 0)])
        self.assertEqual(with_forced(TWO, ((None, 1, None),)), ((1, 1, 1),))
        self.assertEqual(forced(TWO, bare(2, 2)), [])
        self.assertEqual(with_forced(TWO, bare(2, 2)), bare(2, 2))
        self.assertEqual(forced(FREE, bare(2, 2)), [((1, 0), 0), ((1, 1), 0)])
        self.assertEqual(with_forced(FREE, bare(2, 2)), ((None, None), (0, 0)))

    def test_of_a_set_of_one_tile(self):
        tiles = ((0, 0, 0, 0),)
        self.assertEqual(forced(tiles, bare(1, 2)), [((0, 0), 0), ((0, 1), 0)])
        self.assertEqual(forced(tiles, ((0, None),)), [((0, 1), 0)])
        self.assertEqual(forced(LONE, ((None,),)), [((0, 0), 0)])

    def test_laid_tiles_are_not_told(self):
        self.assertEqual(forced(TWO, ((0, 0), (0, 0))), [])
        self.assertEqual(forced(FREE, ((3,),)), [])
        self.assertEqual(with_forced(FREE, ((3,),)), ((3,),))

    def test_nothing_where_there_is_no_fill(self):
        for tiles, floor in (
            (LONE, bare(2, 2)), (TWO, ((0, 1), (None, None))), (TWO, ((0, None, 1),)), (STAIRS, bare(4, 2)),
            (FREE, ((None, 5),)),
        ):
            self.assertEqual(forced(tiles, floor), [])
            self.assertEqual(with_forced(tiles, floor), floor)

    def test_against_a_plain_trial(self):
        seen = []
        for tiles, floor in some_trials():
            fills = grown_fills(tiles, floor)
            wanted = plain_forced(floor, fills)
            seen.append((len(fills) > 1, len(wanted)))
            self.assertEqual(forced(tiles, floor), wanted)
            for (r, c), number in wanted:
                self.assertTrue(all(whole[r][c] == number for whole in fills))
        self.assertIn((True, 0), seen)
        self.assertIn((True, 1), seen)
        self.assertIn((True, 2), seen)
        self.assertIn((False, 2), seen)

    def test_with_all_laid_nothing_more_is_forced(self):
        changes = 0
        for tiles, floor in some_trials():
            told = with_forced(tiles, floor)
            wanted = floor
            for place, number in forced(tiles, floor):
                wanted = changed(wanted, place, number)
            self.assertEqual(told, wanted)
            self.assertTrue(is_floor(tiles, told))
            self.assertEqual(grown_fills(tiles, told), grown_fills(tiles, floor))
            self.assertEqual(forced(tiles, told), [])
            self.assertEqual(with_forced(tiles, told), told)
            changes += told != floor
        self.assertGreater(changes, 40)


class Stuck(unittest.TestCase):
    def assertStuck(self, tiles, floor):
        """What stuck tells is a part of the floor, and stuck by a plain trial too."""
        told = stuck(tiles, floor)
        self.assertIs(is_stuck(tiles, told), True)
        self.assertEqual(grown_fills(tiles, told), [])
        for place in laid(told):
            self.assertNotEqual(grown_fills(tiles, changed(told, place, None)), [])
        self.assertEqual([len(row) for row in told], [len(row) for row in floor])
        self.assertTrue(all(floor[r][c] == told[r][c] for r, c in laid(told)))
        self.assertIsInstance(told, tuple)
        return told

    def test_by_hand(self):
        self.assertIsNone(stuck(TWO, ((0, None, 0),)))
        self.assertEqual(stuck(TWO, ((0, None, 1),)), ((0, None, 1),))
        self.assertEqual(stuck(LONE, ((0, 0),)), ((None, None),))
        self.assertEqual(stuck(FREE, ((0, 5),)), ((None, 5),))
        self.assertIn(stuck(TWO, ((0, 0, 1),)), (((0, None, 1),), ((None, 0, 1),)))

    def test_by_hand_is_stuck(self):
        self.assertIs(is_stuck(TWO, ((0, None, 1),)), True)
        self.assertIs(is_stuck(TWO, ((0, 1, None),)), True)
        self.assertIs(is_stuck(TWO, ((0, 0, 1),)), False)
        self.assertIs(is_stuck(TWO, ((0, 1, 0),)), False)
        self.assertIs(is_stuck(TWO, ((0, None, 0),)), False)
        self.assertIs(is_stuck(TWO, ((0, 0), (0, 0))), False)
        self.assertIs(is_stuck(TWO, ((None,),)), False)
        self.assertIs(is_stuck(FREE, ((1,),)), False)
        self.assertIs(is_stuck(FREE, ((None, 5),)), True)
        self.assertIs(is_stuck(FREE, ((0, 5),)), False)

    def test_no_tile_at_all_and_no_fill(self):
        for tiles, floor in ((LONE, bare(1, 2)), (LONE, bare(2, 1)), (STAIRS, bare(4, 1)), (STAIRS, bare(4, 2))):
            self.assertIs(is_stuck(tiles, floor), True)
            self.assertEqual(stuck(tiles, floor), floor)

    def test_tiles_on_a_floor_that_has_no_fill_without_them(self):
        for floor in (((0, None),), ((None, 0),), ((0, 0),)):
            self.assertIs(is_stuck(LONE, floor), False)
            self.assertEqual(stuck(LONE, floor), bare(1, 2))
        self.assertEqual(stuck(STAIRS, ((0, None), (1, None), (None, 2), (None, None))), bare(4, 2))

    def test_a_tile_that_has_no_fill_by_itself(self):
        self.assertIs(is_stuck(STAIRS, ((1,), (None,), (None,))), True)
        self.assertIs(is_stuck(STAIRS, ((1,), (None,), (2,))), False)
        self.assertEqual(self.assertStuck(STAIRS, ((1,), (None,), (2,))), ((1,), (None,), (None,)))

    def test_three_and_four_tiles_of_which_none_can_be_missed(self):
        for tiles, floor in (
            (((0, 0, 0, 1), (0, 1, 0, 0), (1, 0, 1, 1), (1, 1, 1, 1)), ((3, None, 3), (None, 1, None))),
            (((0, 0, 0, 0), (0, 1, 0, 1), (1, 0, 0, 1), (1, 1, 1, 0)), ((None, 0, None, 2), (None, 0, None, 0))),
        ):
            self.assertEqual(grown_fills(tiles, floor), [])
            self.assertIs(is_stuck(tiles, floor), True)
            self.assertEqual(stuck(tiles, floor), floor)
            for place in laid(floor):
                less = changed(floor, place, None)
                self.assertNotEqual(grown_fills(tiles, less), [])
                self.assertIs(is_stuck(tiles, less), False)
                self.assertIsNone(stuck(tiles, less))

    def test_is_stuck_against_a_plain_trial(self):
        seen = []
        for blank in (0, 0.3, 0.6, 0.8, 1):
            for tiles, floor in some_pairs(44, 60, SMALL, blank, most=4, colours=2):
                wanted = plain_is_stuck(tiles, floor)
                seen.append((wanted, len(laid(floor))))
                self.assertIs(is_stuck(tiles, floor), wanted)
        for many in range(3):
            self.assertIn((True, many), seen)
        self.assertIn((False, 4), seen)

    def test_stuck_against_a_plain_trial(self):
        seen = []
        for tiles, floor in some_trials():
            if grown_fills(tiles, floor):
                self.assertIsNone(stuck(tiles, floor))
                self.assertIs(is_stuck(tiles, floor), False)
            else:
                told = self.assertStuck(tiles, floor)
                seen.append((len(laid(told)), told == floor))
        for wanted in ((0, False), (1, False), (1, True), (2, False), (2, True)):
            self.assertIn(wanted, seen)


class Differing(unittest.TestCase):
    def test_by_hand(self):
        self.assertEqual(differing(((0, 1), (2, None)), ((0, 2), (None, None))), [(0, 1), (1, 0)])
        self.assertEqual(differing(((None, 0),), ((0, None),)), [(0, 0), (0, 1)])
        self.assertEqual(differing(((0,),), ((0,),)), [])
        self.assertEqual(differing(bare(2, 2), bare(2, 2)), [])
        self.assertEqual(differing(bare(2, 2), ((0, 0), (0, 0))), [(0, 0), (0, 1), (1, 0), (1, 1)])
        self.assertEqual(differing(((0,), (1,), (2,)), ((2,), (1,), (0,))), [(0, 0), (2, 0)])

    def test_against_plain_words(self):
        chance = Random(45)
        for rows, columns in EIGHT + ((4, 4), (2, 6), (3, 5)):
            for _ in range(6):
                one, other = (some_floor(chance, FREE[:3], rows, columns) for _ in range(2))
                wanted = [(r, c) for r in range(rows) for c in range(columns) if one[r][c] != other[r][c]]
                self.assertEqual(differing(one, other), wanted)
                self.assertEqual(differing(other, one), wanted)
                self.assertEqual(differing(one, one), [])


class Bounds(unittest.TestCase):
    """Floors of 8 places, with sets of 5 tiles and with the sixteen."""

    def assertAll(self, tiles, floor):
        fills = grown_fills(tiles, floor)
        for place in places_of(floor):
            numbers = [whole[place[0]][place[1]] for whole in fills]
            self.assertEqual(counts_at(tiles, floor, place), [numbers.count(n) for n in range(len(tiles))])
            self.assertEqual(may_stand(tiles, floor, place), sorted(set(numbers)))
        self.assertEqual(forced(tiles, floor), plain_forced(floor, fills))
        told = stuck(tiles, floor)
        self.assertIs(told is None, len(fills) > 0)
        if told is not None:
            self.assertIs(is_stuck(tiles, told), True)
            self.assertEqual(grown_fills(tiles, told), [])
            self.assertTrue(all(grown_fills(tiles, changed(told, place, None)) for place in laid(told)))
        return len(fills)

    def test_the_sixteen_with_none_laid(self):
        tiles = sixteen()
        for rows, columns in EIGHT:
            floor = bare(rows, columns)
            each = 2 ** ((rows + 1) * (columns + 1) - 4)
            for place in places_of(floor):
                self.assertEqual(counts_at(tiles, floor, place), [each] * 16)
                self.assertEqual(may_stand(tiles, floor, place), list(range(16)))
            self.assertEqual(forced(tiles, floor), [])
            self.assertIsNone(stuck(tiles, floor))

    def test_the_sixteen_with_some_laid(self):
        tiles = sixteen()
        chance = Random(46)
        counts = []
        for _ in range(30):
            rows, columns = chance.choice(((2, 4), (4, 2), (2, 3), (1, 6), (6, 1)))
            counts.append(self.assertAll(tiles, some_floor(chance, tiles, rows, columns, 0.6)))
        self.assertIn(0, counts)
        self.assertGreater(max(counts), 50)
        # Corners all around the place, so that its tile is forced.
        floor = ((0, None, 0, None), (None, 15, None, 0))
        self.assertEqual(self.assertAll(tiles, floor), 0)
        floor = ((None, 9, None, None), (None, None, None, 15))
        self.assertGreater(self.assertAll(tiles, floor), 0)

    def test_five_tiles(self):
        chance = Random(47)
        counts = []
        for tiles in (FREE, ROWS, STAIRS):
            for rows, columns in ((2, 4), (4, 2), (1, 6), (6, 1)):
                counts.append(self.assertAll(tiles, some_floor(chance, tiles, rows, columns, 0.7)))
        for _ in range(40):
            tiles = some_set(chance, 5, 2)
            rows, columns = chance.choice(((2, 4), (4, 2), (1, 6), (6, 1)))
            counts.append(self.assertAll(tiles, some_floor(chance, tiles, rows, columns, 0.8)))
        self.assertIn(0, counts)
        self.assertGreater(max(counts), 100)

    def test_five_tiles_with_very_many_fills(self):
        floor = bare(1, 6)
        for place in places_of(floor):
            self.assertEqual(counts_at(FREE, floor, place), [5 ** 5] * 5)
        self.assertEqual(forced(FREE, floor), [])
        each = len(grown_fills(ROWS, bare(4, 1)))
        column = grown_fills(ROWS, bare(4, 1))
        for row in range(4):
            counts = [sum(whole[row][0] == number for whole in column) * each for number in range(5)]
            self.assertEqual(counts_at(ROWS, bare(4, 2), (row, 1)), counts)

    def test_a_board(self):
        self.assertEqual(forced(BOARD, ((0, None, None, None), (None,) * 4)), [
            ((0, 1), 1), ((0, 2), 0), ((0, 3), 1), ((1, 0), 1), ((1, 1), 0), ((1, 2), 1), ((1, 3), 0),
        ])
        self.assertEqual(with_forced(BOARD, ((None,) * 4, (None, None, None, 1))), ((1, 0, 1, 0), (0, 1, 0, 1)))
        floor = ((0, 1, 0, 1), (1, 0, 1, 1))
        told = stuck(BOARD, floor)
        self.assertEqual(len(laid(told)), 2)
        self.assertEqual(told[1][3], 1)
        self.assertIs(is_stuck(BOARD, told), True)
        self.assertIs(is_stuck(BOARD, floor), False)


class Kept(unittest.TestCase):
    def test_told_lists_are_new_ones(self):
        floor = ((0, None), (None, None))
        for tell in (
            lambda: counts_at(TWO, floor, (0, 1)), lambda: may_stand(FREE, bare(1, 2), (0, 1)),
            lambda: forced(TWO, floor), lambda: differing(floor, ((1, 0), (None, 1))),
        ):
            first = tell()
            before = list(first)
            self.assertGreater(len(before), 1)
            first.append("more")
            first[0] = None
            self.assertEqual(tell(), before)
            first.clear()
            self.assertEqual(tell(), before)

    def test_what_is_handed_in_is_as_it_was(self):
        kept = (ROWS, ((None, 0, None), (None, None, 1)), (1, 0), ((0, 0, 0), (1, 1, None)))
        before = copy.deepcopy(kept)
        tiles, floor, place, other = kept
        first = (
            counts_at(tiles, floor, place), may_stand(tiles, floor, place), forced(tiles, floor),
            with_forced(tiles, floor), stuck(tiles, floor), is_stuck(tiles, floor), differing(floor, other),
        )
        self.assertIs(refusal(counts_at, tiles, floor, (2, 0)), NoPlace)
        self.assertIs(refusal(may_stand, tiles, floor, (0, 3)), NoPlace)
        stuck(tiles, other)
        self.assertEqual(kept, before)
        self.assertEqual(first, (
            counts_at(tiles, floor, place), may_stand(tiles, floor, place), forced(tiles, floor),
            with_forced(tiles, floor), stuck(tiles, floor), is_stuck(tiles, floor), differing(floor, other),
        ))

    def test_forced_tiles_are_whole_numbers(self):
        told = forced(((0, 0, 0, 0),), bare(2, 2))
        for (row, column), number in told:
            self.assertEqual([isinstance(part, bool) for part in (row, column, number)], [False] * 3)
        self.assertTrue(is_fill(((0, 0, 0, 0),), bare(2, 2), with_forced(((0, 0, 0, 0),), bare(2, 2))))


if __name__ == "__main__":
    unittest.main()
