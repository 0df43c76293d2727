"""Texts: 10.1, 10.2, 0.2 (i), and 0.3 as far as it speaks of them."""

import copy
import unittest
from itertools import product
from random import Random

from floorfits.errors import NoText
from floorfits.floors import is_floor, is_set
from floorfits.texts import floor_text, read_floor, read_set, set_text
from tests.plain import (
    EVERY, FREE, LONE, PAIR, ROWS, SIGNS, STRANGE, bare, lines_moved, near_texts, plain_floor_text, plain_set_text,
    refusal, sixteen, some_floor,
)

EIGHTS = ((8, 7, 6, 5), (4, 3, 2, 1), (0, 0, 0, 8))
# Numbers of one figure and of two, and places without a tile.
MIXED = ((0, 10, None), (None, 15, 1), (9, None, 11))


def many_tiles(many):
    return tuple(list(product(range(9), repeat=4))[::271][:many])


def some_sets(seed):
    chance = Random(seed)
    for many in range(1, 17):
        tiles = many_tiles(16)
        yield tuple(chance.sample(tiles, many))


class Written(unittest.TestCase):
    def test_sets_by_hand(self):
        self.assertEqual(set_text(((0, 1, 2, 1),)), "0121\n")
        self.assertEqual(set_text(PAIR), "0101\n1100\n")
        self.assertEqual(set_text(EIGHTS), "8765\n4321\n0008\n")
        self.assertEqual(set_text(((8, 8, 8, 8),)), "8888\n")

    def test_sixteen_tiles(self):
        text = set_text(sixteen())
        self.assertEqual(text[:15], "0000\n0031\n0110\n")
        self.assertEqual(len(text), 80)
        self.assertTrue(text.endswith("\n4444\n"))

    def test_floors_by_hand(self):
        self.assertEqual(floor_text(((0,),)), "0")
        self.assertEqual(floor_text(((None,),)), "-")
        self.assertEqual(floor_text(((15,),)), "15")
        self.assertEqual(floor_text(((0, None, 1),)), "0 - 1")
        self.assertEqual(floor_text(((0,), (None,), (1,))), "0\n-\n1")
        self.assertEqual(floor_text(MIXED), "0 10 -\n- 15 1\n9 - 11")

    def test_the_greatest_floors(self):
        self.assertEqual(floor_text(bare(6, 6)), "\n".join(["- - - - - -"] * 6))
        self.assertEqual(floor_text(((12,) * 6,)), "12 12 12 12 12 12")
        self.assertEqual(floor_text(((12,),) * 6), "12\n12\n12\n12\n12\n12")

    def test_against_plain_words(self):
        for tiles in some_sets(1001):
            self.assertEqual(set_text(tiles), "".join("%d%d%d%d\n" % tile for tile in tiles))
        chance = Random(1002)
        for rows, columns in EVERY:
            floor = some_floor(chance, sixteen(), rows, columns, 0.3)
            words = [["-" if number is None else "%d" % number for number in row] for row in floor]
            self.assertEqual(floor_text(floor), "\n".join(" ".join(row) for row in words))


class ReadBack(unittest.TestCase):
    def test_sets(self):
        for tiles in list(some_sets(1003)) + [LONE, PAIR, FREE, ROWS, EIGHTS, sixteen()]:
            told = read_set(set_text(tiles))
            self.assertEqual(told, tiles)
            self.assertIs(is_set(told), True)

    def test_floors(self):
        chance = Random(1004)
        for tiles in (LONE, PAIR, FREE, many_tiles(11), sixteen()):
            for rows, columns in EVERY:
                for blank in (0, 0.4, 1):
                    floor = some_floor(chance, tiles, rows, columns, blank)
                    told = read_floor(tiles, floor_text(floor))
                    self.assertEqual(told, floor)
                    self.assertIs(is_floor(tiles, told), True)

    def test_all_small_floors(self):
        for size in ((1, 1), (1, 2), (2, 1), (2, 2), (1, 3)):
            for flat in product((None, 0, 1), repeat=size[0] * size[1]):
                floor = tuple(flat[row * size[1]:(row + 1) * size[1]] for row in range(size[0]))
                self.assertEqual(read_floor(PAIR, floor_text(floor)), floor)

    def test_clashes_are_read_too(self):
        self.assertEqual(read_floor(LONE, "0 0\n0 0"), ((0, 0), (0, 0)))


class NoSets(unittest.TestCase):
    def assertRead(self, text):
        wanted = plain_set_text(text)
        if wanted is None:
            self.assertIs(refusal(read_set, text), NoText, text)
        else:
            self.assertEqual(read_set(text), wanted)
            self.assertEqual(set_text(wanted), text)
        return wanted is None

    def test_by_hand(self):
        for text in (
            "", "\n", "\n\n", " ", "0121", "0121\n\n", "\n0121\n", "0121 \n", " 0121\n", "0121\n ", "01 21\n",
            "012\n", "01211\n", "0129\n", "9000\n", "0121\n0121\n", "0121\n1210\n0121\n", "0121\n\n1210\n",
            "0121 1210\n", "01211210\n", "-121\n", "+121\n", "012a\n", "0121\n--\n", "0,1,2,1\n", "0121\n1210",
            "01\n21\n", "0121;\n", "(0, 1, 2, 1)\n", "0 1 2 1\n", "-\n", "0\n", "0.21\n", "0_21\n",
        ):
            self.assertIs(refusal(read_set, text), NoText, text)

    def test_too_many_tiles(self):
        tiles = list(product(range(9), repeat=4))
        for many in range(1, 20):
            refused = refusal(read_set, set_text(tiles[:many]))
            self.assertIs(refused, NoText if many > 16 else None)

    def test_a_sign_put_in_taken_out_or_exchanged(self):
        for tiles in (((0, 1, 2, 1),), PAIR, EIGHTS, ((0, 0, 0, 0), (0, 0, 0, 1), (0, 0, 1, 0))):
            refused = [self.assertRead(text) for text in near_texts(set_text(tiles))]
            self.assertIn(True, refused)
            self.assertIn(False, refused)

    def test_sixteen_tiles_and_one_sign(self):
        for text in near_texts(set_text(sixteen()), ("0", "4", "8", "9", " ", "\n", "-")):
            self.assertRead(text)

    def test_two_signs(self):
        signs = ("0", "1", "8", "9", " ", "\n", "-", "+")
        for text in near_texts("0121\n", signs):
            for other in near_texts(text, signs):
                self.assertRead(other)

    def test_lines_moved(self):
        for tiles in (PAIR, EIGHTS, sixteen()):
            for text in lines_moved(set_text(tiles)):
                self.assertRead(text)

    def test_all_short_texts(self):
        for many in range(6):
            for signs in product("08 \n", repeat=many):
                self.assertRead("".join(signs))

    def test_strange_signs(self):
        for text in near_texts(set_text(PAIR), STRANGE):
            self.assertRead(text)


class NoFloors(unittest.TestCase):
    def assertRead(self, tiles, text):
        wanted = plain_floor_text(tiles, text)
        if wanted is None:
            self.assertIs(refusal(read_floor, tiles, text), NoText, text)
        else:
            self.assertEqual(read_floor(tiles, text), wanted)
            self.assertEqual(floor_text(wanted), text)
        return wanted is None

    def test_by_hand(self):
        for text in (
            "", " ", "\n", "0\n", "\n0", "0 ", " 0", "0  1", "0 \n1", "0\n\n1", "00", "01", "+1", "-1", "-0", "1 01",
            "--", "- -1", "None", "0 1\n0", "0\n0 1", "0 1\n0 1 1", "2", "0 2", "10", "a", "0,1", "0\t1", "0-", "-0 1",
            "0 1\n", "0 1\n\n", "\n0 1", "0 1 \n0 1", "0 1\n 0 1", "1_0", "0x1", "1.0", "True", "0;", "~",
        ):
            self.assertIs(refusal(read_floor, PAIR, text), NoText, text)

    def test_too_many_rows_and_places(self):
        for rows, columns in product(range(1, 9), repeat=2):
            for number in (None, 0, 1):
                refused = refusal(read_floor, PAIR, floor_text(((number,) * columns,) * rows))
                self.assertIs(refused, NoText if rows > 6 or columns > 6 else None)

    def test_numbers_that_the_set_has_not(self):
        for tiles in (LONE, PAIR, FREE, many_tiles(10), many_tiles(11), sixteen()):
            for number in range(25):
                wanted = None if number < len(tiles) else NoText
                self.assertIs(refusal(read_floor, tiles, str(number)), wanted)
                self.assertIs(refusal(read_floor, tiles, f"0 {number}\n- 0"), wanted)
        for number in range(16):
            self.assertIs(refusal(read_floor, sixteen(), "0" + str(number)), NoText)

    def test_a_sign_put_in_taken_out_or_exchanged(self):
        for tiles, floor in (
            (PAIR, ((0,),)), (PAIR, ((None,),)), (PAIR, ((0, None), (1, 0))), (FREE, ((0, 3, None), (None, 4, 1))),
            (sixteen(), MIXED), (sixteen(), ((15,) * 6,)), (sixteen(), ((1,),) * 6), (PAIR, bare(6, 6)),
        ):
            refused = [self.assertRead(tiles, text) for text in near_texts(floor_text(floor))]
            self.assertIn(True, refused)
            self.assertIn(False, refused)

    def test_two_signs(self):
        signs = ("0", "1", "9", " ", "\n", "-", "+")
        for text in near_texts("0 -\n1 10", signs):
            for other in near_texts(text, signs):
                self.assertRead(sixteen(), other)

    def test_all_short_texts(self):
        for many in range(7):
            for signs in product("01- \n", repeat=many):
                self.assertRead(sixteen(), "".join(signs))

    def test_rows_of_unlike_lengths(self):
        for wide, narrow in product(range(1, 7), repeat=2):
            rows = ((0,) * wide, (1,) * narrow, (None,) * wide)
            for floor in (rows, rows[:2], rows[1:]):
                refused = refusal(read_floor, PAIR, floor_text(floor))
                self.assertIs(refused, None if wide == narrow else NoText)

    def test_lines_moved(self):
        for text in lines_moved(floor_text(MIXED)):
            self.assertRead(sixteen(), text)

    def test_strange_signs(self):
        for text in near_texts("0 1\n- 10", STRANGE):
            self.assertRead(sixteen(), text)

    def test_all_signs_by_themselves(self):
        for sign in SIGNS + STRANGE:
            self.assertRead(sixteen(), sign)


class Kept(unittest.TestCase):
    def test_what_is_handed_in_is_as_it_was(self):
        kept = (sixteen(), MIXED)
        before = copy.deepcopy(kept)
        tiles, floor = kept
        for _ in range(2):
            self.assertEqual(read_floor(tiles, floor_text(floor)), floor)
            self.assertEqual(read_set(set_text(tiles)), tiles)
            self.assertIs(refusal(read_floor, tiles, "16"), NoText)
        self.assertEqual(kept, before)

    def test_numbers_read_are_whole_numbers(self):
        told = read_set("0110\n") + read_floor(PAIR, "0 1")
        self.assertEqual([isinstance(part, bool) for row in told for part in row], [False] * 6)


if __name__ == "__main__":
    unittest.main()
