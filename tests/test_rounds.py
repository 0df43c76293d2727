"""Joined round: 6.1, 6.2, 0.2 (e), and 0.3 as far as it speaks of them."""

import copy
import unittest
from random import Random

from floorfits.counting import count_fills, fill, is_fill, number_of
from floorfits.errors import NoFill
from floorfits.floors import is_floor
from floorfits.rounds import count_rounds, first_round, is_joined
from floorfits.turning import mirrored_floor, mirrored_set, rolled
from tests.plain import (
    BOARD, EIGHT, FREE, LONE, PAIR, ROWS, SMALL, STAIRS, all_floors, bare, grown_fills, plain_fills, plain_joined,
    refusal, sixteen, some_floor, some_pairs, some_set,
)

# One that has the same colour at both sides, and a couple that has not.
MIXED = ((0, 0, 0, 0), (0, 1, 0, 0), (0, 0, 0, 1))


class AreJoined(unittest.TestCase):
    def test_by_hand(self):
        self.assertIs(is_joined(MIXED, ((0, 0),)), True)
        self.assertIs(is_joined(MIXED, ((1, 2),)), True)
        self.assertIs(is_joined(MIXED, ((2, 1),)), True)
        self.assertIs(is_joined(MIXED, ((0, 1),)), False)
        self.assertIs(is_joined(MIXED, ((2, 0),)), False)

    def test_each_row_is_asked(self):
        self.assertIs(is_joined(MIXED, ((0, 0), (1, 2))), True)
        self.assertIs(is_joined(MIXED, ((0, 0), (0, 1))), False)
        self.assertIs(is_joined(MIXED, ((0, 1), (0, 0))), False)
        self.assertIs(is_joined(MIXED, ((0, 0), (0, 1), (0, 0))), False)

    def test_one_column(self):
        self.assertIs(is_joined(MIXED, ((0,),)), True)
        self.assertIs(is_joined(MIXED, ((1,),)), False)
        self.assertIs(is_joined(MIXED, ((0,), (0,), (0,))), True)
        self.assertIs(is_joined(MIXED, ((0,), (2,), (0,))), False)

    def test_it_hangs_on_nothing_else(self):
        # Clashes within do not bear on it, nor north and south.
        self.assertIs(is_joined(MIXED, ((2, 2, 1),)), True)
        self.assertIs(is_joined(STAIRS, ((0, 0), (3, 3), (0, 1))), True)
        self.assertIs(is_joined(LONE, ((0, 0),)), False)
        self.assertIs(is_joined(((0, 1, 8, 1),), ((0, 0),)), True)

    def test_where_the_set_has_no_such_number_nothing_is_joined(self):
        for floor in (((3,),), ((-1,),), ((3, 0),), ((0, 3),), ((3, 3),)):
            self.assertIs(is_joined(MIXED, floor), False)

    def test_against_plain_words(self):
        seen = []
        for tiles, floor in some_pairs(101, 200, EIGHT + ((4, 4), (2, 6), (6, 2)), 0, colours=2):
            wanted = plain_joined(tiles, floor)
            seen.append(wanted)
            self.assertIs(is_joined(tiles, floor), wanted)
        self.assertIn(True, seen)
        self.assertIn(False, seen)

    def test_all_small_floors(self):
        for rows, columns in ((1, 1), (1, 2), (2, 1), (2, 2), (1, 3)):
            for floor in all_floors(MIXED, rows, columns):
                self.assertIs(is_joined(MIXED, floor), plain_joined(MIXED, floor))


class Told(unittest.TestCase):
    def assertRounds(self, tiles, floor, fills):
        """By all fills, in order, however they were found."""
        rounds = [whole for whole in fills if plain_joined(tiles, whole)]
        self.assertEqual(count_rounds(tiles, floor), len(rounds))
        if rounds == []:
            self.assertIs(refusal(first_round, tiles, floor), NoFill)
        else:
            told = first_round(tiles, floor)
            self.assertEqual(told, rounds[0])
            self.assertIs(is_joined(tiles, told), True)
            self.assertIs(is_fill(tiles, floor, told), True)
            self.assertIs(is_floor(tiles, told), True)
        return len(rounds)


class Rounds(Told):
    def test_by_hand(self):
        self.assertEqual(count_rounds(MIXED, bare(1, 2)), 3)
        self.assertEqual(first_round(MIXED, bare(1, 2)), ((0, 0),))
        self.assertEqual(count_rounds(MIXED, ((None, 1),)), 1)
        self.assertEqual(first_round(MIXED, ((None, 1),)), ((2, 1),))
        self.assertEqual(count_rounds(MIXED, ((None, 1, None),)), 1)
        self.assertEqual(first_round(MIXED, ((None, 1, None),)), ((0, 1, 2),))
        self.assertEqual(count_rounds(BOARD, bare(2, 2)), 2)
        self.assertEqual(first_round(BOARD, bare(2, 2)), ((0, 1), (1, 0)))

    def test_one_column(self):
        self.assertEqual(count_rounds(MIXED, bare(1, 1)), 1)
        self.assertEqual(first_round(MIXED, bare(1, 1)), ((0,),))
        self.assertEqual(count_rounds(MIXED, bare(3, 1)), 1)
        self.assertEqual(count_rounds(MIXED, ((None,), (1,))), 0)
        self.assertIs(refusal(first_round, MIXED, ((None,), (1,))), NoFill)
        self.assertEqual(count_rounds(LONE, bare(1, 1)), 0)
        self.assertEqual(count_rounds(ROWS, bare(4, 1)), count_fills(ROWS, bare(4, 1)))

    def test_full_floors(self):
        self.assertEqual(count_rounds(MIXED, ((1, 2),)), 1)
        self.assertEqual(first_round(MIXED, ((1, 2),)), ((1, 2),))
        self.assertEqual(count_rounds(MIXED, ((0, 1),)), 0)
        # Joined, and yet no fill.
        self.assertEqual(count_rounds(MIXED, ((2, 2, 1),)), 0)
        self.assertIs(refusal(first_round, MIXED, ((2, 2, 1),)), NoFill)

    def test_no_round(self):
        for tiles, floor in (
            (LONE, bare(1, 2)), (BOARD, bare(1, 3)), (BOARD, bare(1, 1)), (BOARD, ((0, None, None), (None,) * 3)),
            (STAIRS, bare(4, 2)), (FREE, ((None, 5),)), (MIXED, ((0, 1), (None, None))),
        ):
            self.assertEqual(count_rounds(tiles, floor), 0)
            self.assertIs(refusal(first_round, tiles, floor), NoFill)

    def test_the_first_round_need_not_be_the_first_fill(self):
        tiles = ((0, 1, 0, 0), (0, 1, 0, 1), (0, 0, 0, 1))
        floor = bare(1, 3)
        self.assertEqual(fill(tiles, floor, 0), ((0, 1, 1),))
        self.assertEqual(first_round(tiles, floor), ((0, 1, 2),))
        self.assertEqual(number_of(tiles, floor, ((0, 1, 2),)), 1)

    def test_against_a_plain_trial(self):
        seen = []
        for blank in (0, 0.3, 0.6, 0.8, 1):
            for tiles, floor in some_pairs(102, 80, SMALL, blank, colours=2):
                fills = plain_fills(tiles, floor)
                seen.append((len(floor[0]), len(fills) > 0, min(2, self.assertRounds(tiles, floor, fills))))
        for columns in (1, 2, 3, 4):
            for many in (0, 1, 2):
                self.assertIn((columns, True, many), seen)
        self.assertIn((2, False, 0), seen)

    def test_more_rows_and_colours_against_a_trial(self):
        seen = []
        for colours in (2, 3):
            for tiles, floor in some_pairs(103, 120, EIGHT, 0.9, colours=colours):
                seen.append(self.assertRounds(tiles, floor, grown_fills(tiles, floor)))
        self.assertIn(0, seen)
        self.assertGreater(max(seen), 20)

    def test_rolled_there_are_as_many(self):
        seen = []
        for tiles, floor in some_pairs(104, 120, EIGHT, 0.7, colours=2):
            many = count_rounds(tiles, floor)
            seen.append(many)
            for by in range(-3, 8):
                self.assertEqual(count_rounds(tiles, rolled(floor, by)), many)
            self.assertEqual(count_rounds(mirrored_set(tiles), mirrored_floor(floor)), many)
        self.assertIn(0, seen)
        self.assertGreater(max(seen), 5)

    def test_rolled_rounds_are_rounds(self):
        for tiles in (MIXED, PAIR, BOARD, ROWS):
            for whole in grown_fills(tiles, bare(2, 3))[:40]:
                if plain_joined(tiles, whole):
                    for by in (-1, 1, 2):
                        self.assertIs(is_joined(tiles, rolled(whole, by)), True)
                        self.assertIs(is_fill(tiles, bare(2, 3), rolled(whole, by)), True)

    def test_fills_themselves_are_counted_as_ever(self):
        for tiles, floor in some_pairs(105, 40, EIGHT, 0.8, colours=2):
            fills = grown_fills(tiles, floor)
            count_rounds(tiles, floor)
            self.assertEqual(count_fills(tiles, floor), len(fills))

    def test_kinds(self):
        self.assertIs(isinstance(count_rounds(MIXED, ((1, 2),)), bool), False)
        told = first_round(BOARD, bare(2, 2))
        self.assertIsInstance(told, tuple)
        self.assertEqual([isinstance(row, tuple) for row in told], [True, True])


class Bounds(Told):
    """Floors of 8 places, with sets of 5 tiles and with the sixteen."""

    def test_the_sixteen(self):
        tiles = sixteen()
        for rows, columns in EIGHT:
            # The corners of the last column's east are those of the first one's west.
            self.assertEqual(count_rounds(tiles, bare(rows, columns)), 2 ** ((rows + 1) * columns))
            self.assertEqual(first_round(tiles, bare(rows, columns)), ((0,) * columns,) * rows)

    def test_the_sixteen_with_some_laid(self):
        tiles = sixteen()
        chance = Random(106)
        seen = []
        for _ in range(40):
            rows, columns = chance.choice(((2, 4), (4, 2), (2, 3), (1, 6), (6, 1)))
            floor = some_floor(chance, tiles, rows, columns, 0.75)
            seen.append(self.assertRounds(tiles, floor, grown_fills(tiles, floor)))
        self.assertIn(0, seen)
        self.assertGreater(max(seen), 50)
        self.assertEqual(count_rounds(tiles, ((0, None, None, 15), (None,) * 4)), 0)
        self.assertEqual(count_rounds(tiles, ((0, None, 15, None), (None,) * 4)), 2 ** 4)

    def test_five_tiles(self):
        chance = Random(107)
        seen = []
        for count in range(60):
            tiles = (FREE, ROWS, STAIRS)[count] if count < 3 else some_set(chance, 5, 2)
            rows, columns = chance.choice(((2, 4), (4, 2), (1, 5), (6, 1)))
            floor = some_floor(chance, tiles, rows, columns, 0.95)
            seen.append(self.assertRounds(tiles, floor, grown_fills(tiles, floor)))
        self.assertIn(0, seen)
        self.assertGreater(max(seen), 20)

    def test_five_tiles_with_very_many_rounds(self):
        self.assertEqual(count_rounds(FREE, bare(1, 6)), 5 ** 6)
        self.assertEqual(first_round(FREE, ((None, 3, None, None, None, 4),)), ((0, 3, 0, 0, 0, 4),))
        self.assertEqual(count_rounds(ROWS, bare(2, 4)), count_fills(ROWS, bare(2, 4)))


class Kept(unittest.TestCase):
    def test_what_is_handed_in_is_as_it_was(self):
        kept = (MIXED, ((None, 1, None), (None, None, 0)), ((0, 1, 2), (0, 0, 0)))
        before = copy.deepcopy(kept)
        tiles, floor, whole = kept
        first = (count_rounds(tiles, floor), first_round(tiles, floor), is_joined(tiles, whole))
        self.assertIs(refusal(first_round, tiles, ((0, 1),)), NoFill)
        self.assertEqual(first, (count_rounds(tiles, floor), first_round(tiles, floor), is_joined(tiles, whole)))
        self.assertEqual(kept, before)


if __name__ == "__main__":
    unittest.main()
