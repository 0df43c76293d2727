"""Painters: 9.1, 9.2, 0.2 (h), and 0.3 as far as it speaks of them."""

import copy
import unittest
from random import Random

from floorfits.counting import fill
from floorfits.errors import NoFill, NoPlace, NoTile, Nothing
from floorfits.floors import places_of
from floorfits.knowing import with_forced
from floorfits.layers import poured
from floorfits.painters import Painter
from tests.plain import (
    BOARD, FREE, LONE, PAIR, ROWS, STAIRS, bare, changed, grown_fills, outside, plain_clashes, refusal, sixteen,
    some_floor, some_set,
)

# The first two fit beside each other in turn, the third beside itself alone.
TILES = ((0, 1, 0, 0), (0, 0, 0, 1), (0, 2, 0, 2))
SIZES = ((1, 1), (1, 3), (3, 1), (2, 2), (2, 3), (3, 2), (2, 4))
WRONG_NUMBERS = (-1, 3, 99, True, False, "0", (0,), [])


def told_of(painter):
    return (painter.floor(), painter.steps(), painter.clashes(), painter.can_be_filled())


class Log:
    """What a painter should tell: all floors that were, and which of them is there now."""

    def __init__(self, tiles, floor):
        self.tiles = tiles
        self.floors = [floor]
        self.at = 0

    def floor(self):
        return self.floors[self.at]

    def steps(self):
        return (self.at, len(self.floors) - 1 - self.at)

    def change(self, floor):
        if floor != self.floor():
            self.floors = self.floors[:self.at + 1] + [floor]
            self.at += 1

    def move(self, by):
        if not 0 <= self.at + by < len(self.floors):
            return Nothing
        self.at += by
        return None


class Begun(unittest.TestCase):
    def test_by_hand(self):
        painter = Painter(TILES, ((0, 0), (None, 1)))
        self.assertEqual(painter.floor(), ((0, 0), (None, 1)))
        self.assertEqual(painter.clashes(), [((0, 0), "east")])
        self.assertIs(painter.can_be_filled(), False)
        self.assertEqual(painter.steps(), (0, 0))

    def test_looking_changes_nothing(self):
        painter = Painter(TILES, bare(1, 2))
        painter.put((0, 0), 0)
        painter.put((0, 0), 1)
        painter.undo()
        before = told_of(painter)
        for _ in range(3):
            self.assertEqual(told_of(painter), before)
        self.assertEqual(before, (((0, None),), (1, 1), [], True))

    def test_no_step_to_begin_with(self):
        for floor in (bare(1, 1), ((0, 1),), ((0,), (0,))):
            painter = Painter(TILES, floor)
            self.assertIs(refusal(painter.undo), Nothing)
            self.assertIs(refusal(painter.redo), Nothing)
            self.assertEqual(painter.floor(), floor)
            self.assertEqual(painter.steps(), (0, 0))


class Changes(unittest.TestCase):
    def test_put(self):
        painter = Painter(TILES, bare(1, 3))
        self.assertIsNone(painter.put((0, 1), 2))
        self.assertEqual(painter.floor(), ((None, 2, None),))
        self.assertEqual(painter.steps(), (1, 0))
        self.assertIsNone(painter.put((0, 0), 0))
        self.assertEqual(told_of(painter), (((0, 2, None),), (2, 0), [((0, 0), "east")], False))
        self.assertIsNone(painter.put((0, 1), None))
        self.assertEqual(told_of(painter), (((0, None, None),), (3, 0), [], True))

    def test_put_what_is_there(self):
        painter = Painter(TILES, ((0, None),))
        self.assertIsNone(painter.put((0, 0), 0))
        self.assertIsNone(painter.put((0, 1), None))
        self.assertEqual(told_of(painter), (((0, None),), (0, 0), [], True))

    def test_pour(self):
        painter = Painter(TILES, ((None, None, 1), (0, None, 1)))
        self.assertIsNone(painter.pour((1, 1), 2))
        self.assertEqual(painter.floor(), ((2, 2, 1), (0, 2, 1)))
        self.assertEqual(painter.steps(), (1, 0))
        self.assertIsNone(painter.pour((0, 2), None))
        self.assertEqual(painter.floor(), ((2, 2, None), (0, 2, None)))
        self.assertEqual(painter.steps(), (2, 0))
        painter.undo()
        painter.undo()
        self.assertEqual(painter.floor(), ((None, None, 1), (0, None, 1)))

    def test_pour_what_is_there(self):
        painter = Painter(TILES, ((0, 0), (None, 0)))
        self.assertIsNone(painter.pour((1, 1), 0))
        self.assertIsNone(painter.pour((1, 0), None))
        self.assertEqual(painter.steps(), (0, 0))

    def test_force(self):
        painter = Painter(TILES, ((0, None, None),))
        self.assertIsNone(painter.force())
        self.assertEqual(painter.floor(), ((0, 1, 0),))
        self.assertEqual(painter.steps(), (1, 0))
        self.assertIsNone(painter.force())
        self.assertEqual(painter.steps(), (1, 0))
        painter.undo()
        self.assertEqual(painter.floor(), ((0, None, None),))

    def test_force_where_nothing_is_forced(self):
        for floor in (bare(1, 3), ((0, 0, None),), ((0, 1),)):
            painter = Painter(TILES, floor)
            self.assertIsNone(painter.force())
            self.assertEqual(painter.floor(), floor)
            self.assertEqual(painter.steps(), (0, 0))

    def test_finish(self):
        painter = Painter(TILES, ((None, 1, None),))
        self.assertIsNone(painter.finish(((0, 1, 0),)))
        self.assertEqual(told_of(painter), (((0, 1, 0),), (1, 0), [], True))
        self.assertIsNone(painter.finish(((0, 1, 0),)))
        self.assertEqual(painter.steps(), (1, 0))
        painter.undo()
        self.assertEqual(painter.floor(), ((None, 1, None),))

    def test_finish_with_each_fill(self):
        for tiles, floor in ((TILES, bare(2, 2)), (BOARD, bare(2, 3)), (ROWS, ((0, None), (None, None)))):
            wholes = grown_fills(tiles, floor)
            self.assertGreater(len(wholes), 1)
            for whole in wholes:
                painter = Painter(tiles, floor)
                painter.finish(whole)
                self.assertEqual(painter.floor(), whole)
                for other in wholes:
                    self.assertIs(refusal(painter.finish, other), None if other == whole else NoFill)
                self.assertEqual(painter.steps(), (1, 0))


class BackAndAgain(unittest.TestCase):
    def test_through_all_that_was(self):
        painter = Painter(TILES, bare(2, 2))
        floors = [bare(2, 2)]
        for deed in (
            lambda: painter.put((0, 0), 2), lambda: painter.pour((1, 1), 0), lambda: painter.put((0, 1), None),
            lambda: painter.pour((1, 0), None), lambda: painter.force(), lambda: painter.finish(((2, 2), (0, 1))),
        ):
            self.assertIsNone(deed())
            floors.append(painter.floor())
            self.assertEqual(painter.steps(), (len(floors) - 1, 0))
        self.assertEqual(len(set(floors)), 6)
        last = len(floors) - 1
        for _ in range(2):
            for at in range(last - 1, -1, -1):
                self.assertIsNone(painter.undo())
                self.assertEqual(painter.floor(), floors[at])
                self.assertEqual(painter.steps(), (at, last - at))
            self.assertIs(refusal(painter.undo), Nothing)
            self.assertEqual(painter.steps(), (0, last))
            for at in range(1, last + 1):
                self.assertIsNone(painter.redo())
                self.assertEqual(painter.floor(), floors[at])
                self.assertEqual(painter.steps(), (at, last - at))
            self.assertIs(refusal(painter.redo), Nothing)
            self.assertEqual(painter.steps(), (last, 0))

    def test_nothing_can_be_done_again_behind_another_change(self):
        for deed in (
            lambda painter: painter.put((0, 0), 2), lambda painter: painter.pour((0, 1), 1),
            lambda painter: painter.force(), lambda painter: painter.finish(((1, 0, 1),)),
        ):
            painter = Painter(TILES, ((None, None, 1),))
            painter.put((0, 2), 2)
            painter.put((0, 2), None)
            painter.undo()
            painter.undo()
            self.assertEqual(painter.steps(), (0, 2))
            self.assertIsNone(deed(painter))
            self.assertEqual(painter.steps(), (1, 0))
            self.assertIs(refusal(painter.redo), Nothing)
            painter.undo()
            self.assertEqual(painter.floor(), ((None, None, 1),))

    def test_what_changes_nothing_leaves_what_can_be_done_again(self):
        for deed in (
            lambda painter: painter.put((0, 0), 1), lambda painter: painter.put((0, 2), 1),
            lambda painter: painter.pour((0, 1), 0), lambda painter: painter.force(),
            lambda painter: painter.finish(((1, 0, 1),)),
        ):
            painter = Painter(TILES, ((1, 0, 1),))
            painter.put((0, 0), None)
            painter.put((0, 0), 2)
            painter.undo()
            painter.undo()
            self.assertIsNone(deed(painter))
            self.assertEqual(painter.steps(), (0, 2))
            painter.redo()
            self.assertEqual(painter.floor(), ((None, 0, 1),))
            painter.redo()
            self.assertEqual(painter.floor(), ((2, 0, 1),))

    def test_the_same_floor_twice_is_two_steps(self):
        painter = Painter(TILES, ((0,),))
        for number in (1, 0, 1, 0):
            painter.put((0, 0), number)
        self.assertEqual(painter.steps(), (4, 0))
        told = []
        for _ in range(4):
            painter.undo()
            told.append(painter.floor()[0][0])
        self.assertEqual(told, [1, 0, 1, 0])


class Refusals(unittest.TestCase):
    def begun(self):
        painter = Painter(TILES, ((None, 1, None),))
        painter.put((0, 0), 0)
        painter.put((0, 2), 2)
        painter.put((0, 2), None)
        painter.undo()
        painter.undo()
        return painter

    def assertRefused(self, kind, word, *things):
        painter = self.begun()
        before = told_of(painter)
        self.assertEqual(before, (((0, 1, None),), (1, 2), [], True))
        self.assertIs(refusal(getattr(painter, word), *things), kind)
        self.assertEqual(told_of(painter), before)
        painter.redo()
        self.assertEqual(painter.floor(), ((0, 1, 2),))
        painter.redo()
        self.assertEqual(painter.floor(), ((0, 1, None),))
        self.assertIs(refusal(painter.redo), Nothing)

    def test_no_place(self):
        for word in ("put", "pour"):
            for place in outside(bare(1, 3)):
                for number in (0, None, 2):
                    self.assertRefused(NoPlace, word, place, number)

    def test_no_tile(self):
        for word in ("put", "pour"):
            for place in places_of(bare(1, 3)):
                for number in WRONG_NUMBERS:
                    self.assertRefused(NoTile, word, place, number)

    def test_no_place_is_due_ahead_of_no_tile(self):
        for word in ("put", "pour"):
            for number in WRONG_NUMBERS:
                self.assertRefused(NoPlace, word, (0, 3), number)
                self.assertRefused(NoPlace, word, (-1, 0), number)

    def test_no_fill(self):
        for whole in (
            ((0, 1, 1),), ((2, 1, 0),), ((0, 1, None),), ((0, 1, 2),), ((0, 1),), ((0, 1, 0, 1),), ((0, 1, 0),) * 2,
            ((0,), (1,), (0,)), bare(1, 3), ((0, 1, 3),), ((1, 0, 1),), ((0, True, 0),),
        ):
            self.assertRefused(NoFill, "finish", whole)

    def test_a_fill_that_lacks_a_tile_of_the_floor(self):
        painter = Painter(FREE, ((0, None),))
        self.assertIs(refusal(painter.finish, ((1, 1),)), NoFill)
        self.assertIs(refusal(painter.finish, ((0, 1),)), None)

    def test_a_floor_that_has_no_fill(self):
        for tiles, floor in ((LONE, bare(1, 2)), (STAIRS, bare(4, 1)), (TILES, ((0, 0),))):
            painter = Painter(tiles, floor)
            self.assertIs(painter.can_be_filled(), False)
            for whole in (((0, 0),), ((0,),) * 4, floor):
                self.assertIs(refusal(painter.finish, whole), NoFill)
            self.assertEqual(told_of(painter)[:2], (floor, (0, 0)))

    def test_nothing_to_take_back(self):
        painter = Painter(TILES, bare(1, 2))
        painter.put((0, 0), 0)
        painter.undo()
        for _ in range(3):
            self.assertIs(refusal(painter.undo), Nothing)
            self.assertEqual(told_of(painter), (bare(1, 2), (0, 1), [], True))
        painter.redo()
        for _ in range(3):
            self.assertIs(refusal(painter.redo), Nothing)
            self.assertEqual(told_of(painter), (((0, None),), (1, 0), [], True))


class AgainstALog(unittest.TestCase):
    def some_deed(self, chance, painter, log):
        floor, tiles = log.floor(), log.tiles
        word = chance.choice(("put", "put", "pour", "force", "finish", "undo", "undo", "redo"))
        if word in ("undo", "redo"):
            self.assertIs(refusal(getattr(painter, word)), log.move(-1 if word == "undo" else 1))
            return
        if word in ("put", "pour"):
            place = (chance.randint(-1, len(floor)), chance.randint(-1, len(floor[0])))
            number = chance.choice([None, None, -1, len(tiles)] + list(range(len(tiles))) * 2)
            refused = NoTile if number in (-1, len(tiles)) else None
            refused = refused if place in places_of(floor) else NoPlace
            self.assertIs(refusal(getattr(painter, word), place, number), refused)
            if refused is None:
                by = poured(tiles, floor, place, number) if word == "pour" else changed(floor, place, number)
                log.change(by)
            return
        if word == "force":
            self.assertIs(refusal(painter.force), None)
            log.change(with_forced(tiles, floor))
            return
        wholes = grown_fills(tiles, floor)
        whole = chance.choice(wholes + [some_floor(chance, tiles, len(floor), len(floor[0]), 0)])
        self.assertIs(refusal(painter.finish, whole), None if whole in wholes else NoFill)
        if whole in wholes:
            log.change(whole)

    def test_long_ways(self):
        seen = set()
        for seed in range(60):
            chance = Random(900 + seed)
            tiles = chance.choice((TILES, PAIR, BOARD, some_set(chance, 4, 2), some_set(chance, 3, 2)))
            rows, columns = chance.choice(SIZES[:5])
            floor = some_floor(chance, tiles, rows, columns, 0.8)
            painter, log = Painter(tiles, floor), Log(tiles, floor)
            for _ in range(40):
                self.some_deed(chance, painter, log)
                self.assertEqual(painter.floor(), log.floor())
                self.assertEqual(painter.steps(), log.steps())
                self.assertEqual(painter.clashes(), plain_clashes(tiles, log.floor()))
                wanted = grown_fills(tiles, log.floor()) != []
                self.assertIs(painter.can_be_filled(), wanted)
                seen.add((wanted, painter.clashes() != [], painter.steps()[1] > 1))
        self.assertGreaterEqual(len(seen), 6)

    def test_back_to_what_was(self):
        for seed in range(20):
            chance = Random(980 + seed)
            floor = some_floor(chance, TILES, *chance.choice(SIZES), 0.6)
            painter, log = Painter(TILES, floor), Log(TILES, floor)
            for _ in range(30):
                self.some_deed(chance, painter, log)
            while refusal(painter.undo) is None:
                pass
            self.assertEqual(painter.floor(), floor)
            while refusal(painter.redo) is None:
                pass
            self.assertEqual(painter.floor(), log.floors[-1])


class Bounds(unittest.TestCase):
    def test_sixteen_places(self):
        for tiles in (sixteen(), ROWS, BOARD):
            painter = Painter(tiles, bare(4, 4))
            self.assertIs(painter.can_be_filled(), True)
            painter.force()
            self.assertEqual(painter.steps(), (0, 0))
            whole = fill(tiles, bare(4, 4), 1)
            painter.put((3, 3), whole[3][3])
            painter.pour((0, 0), None)
            self.assertEqual(painter.steps(), (1, 0))
            painter.finish(whole)
            self.assertEqual(told_of(painter), (whole, (2, 0), [], True))
            painter.undo()
            painter.undo()
            self.assertEqual(told_of(painter), (bare(4, 4), (0, 2), [], True))

    def test_forced_on_sixteen_places(self):
        painter = Painter(BOARD, changed(bare(4, 4), (2, 1), 0))
        painter.force()
        self.assertEqual(painter.floor(), ((1, 0, 1, 0), (0, 1, 0, 1)) * 2)
        painter = Painter(sixteen(), ((0, None, 0, None), (None, 0, None, 0)) * 2)
        painter.force()
        self.assertEqual(painter.floor()[1][:3], (0, 0, 0))
        self.assertEqual(painter.floor()[2][1], 0)
        self.assertIsNone(painter.floor()[3][0])

    def test_five_tiles_on_long_floors(self):
        for size in ((2, 6), (6, 2), (3, 5), (5, 3)):
            painter = Painter(FREE, bare(*size))
            painter.pour((0, 0), 3)
            self.assertEqual(painter.clashes(), [((r, c), "south") for r in range(size[0] - 1) for c in range(size[1])])
            self.assertIs(painter.can_be_filled(), False)
            painter.pour((0, 0), 0)
            self.assertIs(painter.can_be_filled(), True)


class Kept(unittest.TestCase):
    def test_two_painters_of_one_floor(self):
        floor = ((0, None), (None, 1))
        one, other = Painter(TILES, floor), Painter(TILES, floor)
        one.put((0, 1), 1)
        one.put((1, 0), 0)
        one.undo()
        self.assertEqual(told_of(other), (floor, (0, 0), [], True))
        self.assertIs(refusal(other.redo), Nothing)
        self.assertIs(refusal(other.undo), Nothing)
        other.pour((0, 1), 2)
        self.assertEqual(one.floor(), ((0, 1), (None, 1)))
        self.assertEqual(one.steps(), (1, 1))
        self.assertEqual(floor, ((0, None), (None, 1)))

    def test_told_lists_are_new_ones(self):
        painter = Painter(TILES, ((0, 0, 0),))
        told = painter.clashes()
        told.append("more")
        told[0] = None
        self.assertEqual(painter.clashes(), [((0, 0), "east"), ((0, 1), "east")])
        painter.clashes().clear()
        self.assertEqual(painter.clashes(), [((0, 0), "east"), ((0, 1), "east")])

    def test_what_is_handed_in_is_as_it_was(self):
        kept = (TILES, ((None, 1, None),), (0, 0), ((0, 1, 0),))
        before = copy.deepcopy(kept)
        tiles, floor, place, whole = kept
        painter = Painter(tiles, floor)
        painter.put(place, 0)
        painter.pour(place, 2)
        painter.undo()
        painter.force()
        painter.undo()
        painter.finish(whole)
        painter.put(place, 2)
        painter.undo()
        self.assertEqual(painter.floor(), whole)
        self.assertEqual(kept, before)

    def test_kinds(self):
        painter = Painter(TILES, ((0, 0),))
        self.assertIsInstance(painter.floor(), tuple)
        self.assertIsInstance(painter.clashes(), list)
        self.assertIsInstance(painter.steps(), tuple)
        self.assertEqual([isinstance(many, bool) for many in painter.steps()], [False, False])


if __name__ == "__main__":
    unittest.main()
