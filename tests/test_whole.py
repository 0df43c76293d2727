"""What holds over the whole program: the interface, and 0.1 to 0.3 across all files."""

import copy
import importlib
import inspect
import unittest
from random import Random

from floorfits import (
    albums, changing, corners, counting, errors, floors, knowing, layers, mending, painters, rounds, tallies, texts,
    turning,
)
from floorfits.errors import FloorError, NoFill, NoName, NoPlace, NoText, NoTile, Nothing, Unlike
from tests.plain import FREE, PAIR, ROWS, bare, laid, refusal, sixteen, some_floor, some_pairs

# Each file's functions, and how many things each takes.
FUNCTIONS = {
    "floors": (
        "is_set 1 is_floor 2 is_full 1 is_right 2 empty 2 size_of 1 places_of 1 tile_at 2 with_tile 4 laid_places 1"
        " clashes 2 edges_of 2"
    ),
    "counting": "count_fills 2 fill 3 number_of 3 is_fill 3",
    "knowing": "counts_at 3 may_stand 3 forced 2 with_forced 2 stuck 2 differing 2 is_stuck 2",
    "mending": "cost_of 3 least_cost 3 mended 3",
    "turning": (
        "turned_set 1 turned_floor 1 mirrored_set 1 mirrored_floor 1 beside 2 below 2 part 5 rolled 2"
    ),
    "rounds": "count_rounds 2 first_round 2 is_joined 2",
    "corners": (
        "corner_tile 4 corner_set 0 corners_at 1 floor_of 1 corners_of 1 with_corner 3 tiles_around 2 are_corners 1"
    ),
    "layers": "over 2 seen 1 hidden 1 only_seen 1 area 2 areas 1 poured 4",
    "texts": "set_text 1 floor_text 1 read_set 1 read_floor 2",
    "tallies": "tally 1 colours_on 2 seams 2 like_rows 1 windows 2",
    "changing": "exchanged 4 set_by 2 floor_by 3 replaced 4 unused 2",
    "albums": "album_text 1 read_album 1",
}
CLASSES = {
    ("painters", "Painter", 2): (
        "floor 0 clashes 0 can_be_filled 0 steps 0 put 2 pour 2 force 0 finish 1 undo 0 redo 0"
    ),
    ("albums", "Album", 1): (
        "put 2 floor_of 1 take 1 join 4 names 0 set_of 0 back 0 forth 0 sizes 0 twin 0"
    ),
}
REFUSALS = (NoPlace, NoTile, NoFill, Unlike, Nothing, NoText, NoName)


def pairs(words):
    words = words.split()
    return [(name, int(many)) for name, many in zip(words[::2], words[1::2], strict=True)]


class Interface(unittest.TestCase):
    def assertTakes(self, call, many):
        told = list(inspect.signature(call).parameters.values())
        self.assertEqual(len(told), many, call)
        for parameter in told:
            self.assertEqual(parameter.kind, parameter.POSITIONAL_OR_KEYWORD)
            self.assertIs(parameter.default, parameter.empty)

    def test_functions(self):
        for stem, words in FUNCTIONS.items():
            module = importlib.import_module("floorfits." + stem)
            for name, many in pairs(words):
                call = getattr(module, name)
                self.assertTrue(inspect.isfunction(call), name)
                self.assertEqual(call.__module__, module.__name__)
                self.assertTakes(call, many)

    def test_classes(self):
        made = {"Painter": painters.Painter(PAIR, bare(1, 1)), "Album": albums.Album(PAIR)}
        for (stem, name, many), words in CLASSES.items():
            kind = getattr(importlib.import_module("floorfits." + stem), name)
            self.assertTrue(inspect.isclass(kind))
            self.assertTakes(kind, many)
            for method, things in pairs(words):
                self.assertTakes(getattr(made[name], method), things)

    def test_refusals(self):
        self.assertTrue(issubclass(FloorError, ValueError))
        for kind in REFUSALS:
            self.assertEqual(kind.__bases__, (FloorError,))
            self.assertIs(getattr(errors, kind.__name__), kind)


def some_thing(chance, deep):
    """Any thing of the kinds that 0.3 names, made of such things that come near to right ones."""
    plain = (0, 1, 2, 3, 8, 9, 16, -1, 10 ** 20, True, False, None, "", "a", "ab", "0", "0101\n", "0000\n--\na\n0\n", "-")
    if deep == 0 or chance.random() < 0.3:
        return chance.choice(plain)
    kind = chance.choice((tuple, tuple, tuple, list))
    if chance.random() < 0.5:
        return kind([some_thing(chance, deep - 1)] * chance.randrange(7))
    return kind(some_thing(chance, deep - 1) for _ in range(chance.randrange(5)))


def near_thing(chance, thing):
    """The thing with something within it, or itself, exchanged."""
    if chance.random() < 0.3 or not isinstance(thing, (tuple, list)) or len(thing) == 0:
        return some_thing(chance, chance.randrange(4))
    if chance.random() < 0.1:
        return list(thing) if isinstance(thing, tuple) else tuple(thing)
    at = chance.randrange(len(thing))
    return type(thing)(thing[:at]) + type(thing)([near_thing(chance, thing[at])]) + type(thing)(thing[at + 1:])


def is_number(thing, most):
    return type(thing) is int and 0 <= thing < most


def plain_is_set(thing):
    if type(thing) is not tuple or not 1 <= len(thing) <= 16:
        return False
    for tile in thing:
        if type(tile) is not tuple or len(tile) != 4 or not all(is_number(colour, 9) for colour in tile):
            return False
    return len(set(thing)) == len(thing)


def plain_is_grid(thing, least, most, is_right):
    if type(thing) is not tuple or not least <= len(thing) <= most:
        return False
    for row in thing:
        if type(row) is not tuple or not least <= len(row) <= most or len(row) != len(thing[0]):
            return False
        if not all(is_right(part) for part in row):
            return False
    return True


class AnyThing(unittest.TestCase):
    """What takes any thing tells or refuses as the document says, and fails in no other way."""

    def some_things(self, seed, *right):
        chance = Random(seed)
        for _ in range(1500):
            yield some_thing(chance, chance.randrange(6))
        for thing in right:
            yield thing
            for _ in range(400):
                yield near_thing(chance, thing)

    def test_sets(self):
        seen = set()
        for thing in self.some_things(1601, PAIR, FREE, sixteen()):
            before = copy.deepcopy(thing)
            wanted = plain_is_set(thing)
            seen.add(wanted)
            self.assertIs(floors.is_set(thing), wanted, thing)
            self.assertIs(refusal(albums.Album, thing), None if wanted else Unlike)
            self.assertEqual(thing, before)
        self.assertEqual(seen, {True, False})

    def test_floors(self):
        seen = set()
        album = albums.Album(PAIR)
        for thing in self.some_things(1602, bare(2, 2), ((0, 1, None),), ((0,) * 6,) * 6):
            wanted = plain_is_grid(thing, 1, 6, lambda part: part is None or is_number(part, 2))
            seen.add(wanted)
            self.assertIs(floors.is_floor(PAIR, thing), wanted, thing)
            self.assertIs(refusal(album.put, "a", thing), None if wanted else Unlike)
        self.assertEqual(seen, {True, False})

    def test_corners(self):
        seen = set()
        for thing in self.some_things(1603, ((0, 1), (1, 0)), ((0,) * 7,) * 7, ((1, 1, 0),) * 2):
            wanted = plain_is_grid(thing, 2, 7, lambda part: is_number(part, 2))
            seen.add(wanted)
            self.assertIs(corners.are_corners(thing), wanted, thing)
        self.assertEqual(seen, {True, False})

    def test_names(self):
        album = albums.Album(PAIR)
        album.put("a", ((0,),))
        for thing in self.some_things(1604, "a", "ab"):
            is_name = type(thing) is str and thing.isascii() and thing.isalpha() and thing.islower()
            wanted = None if thing == "a" else NoName
            self.assertIs(refusal(album.floor_of, thing), wanted)
            self.assertIs(refusal(album.twin().take, thing), wanted)
            self.assertIs(refusal(album.twin().put, thing, ((1,),)), None if is_name else NoName)
            self.assertIs(refusal(album.twin().join, "b", thing, "a", True), wanted)
            self.assertIs(refusal(album.twin().join, "b", "a", thing, True), wanted)
            self.assertIs(refusal(album.twin().join, thing, "a", "a", True), None if is_name else NoName)
        self.assertEqual(album.sizes(), (1, 0))

    def test_orders(self):
        seen = set()
        for thing in self.some_things(1605, (0, 1), (1, 0)):
            is_order = type(thing) is tuple and [type(part) for part in thing] == [int, int]
            wanted = None if is_order and sorted(thing) == [0, 1] else NoTile
            seen.add(wanted)
            self.assertIs(refusal(changing.set_by, PAIR, thing), wanted)
            self.assertIs(refusal(changing.floor_by, PAIR, ((0, 1),), thing), wanted)
        self.assertEqual(seen, {None, NoTile})

    def test_texts_of_albums(self):
        seen = set()
        for thing in self.some_things(1606, "0101\n", "0000\n--\na\n0\n"):
            wanted = None if type(thing) is str and thing in ("0101\n", "0000\n--\na\n0\n") else NoText
            seen.add(wanted)
            self.assertIs(refusal(albums.read_album, thing), wanted)
        self.assertEqual(seen, {None, NoText})


class Together(unittest.TestCase):
    """0.2 where several files meet."""

    def test_painted_floors_are_filled_written_and_counted(self):
        tiles = corners.corner_set()
        chance = Random(1611)
        for _ in range(20):
            corner_map = tuple(tuple(chance.randrange(2) for _ in range(4)) for _ in range(3))
            floor = corners.floor_of(corner_map)
            self.assertIs(counting.is_fill(tiles, bare(2, 3), floor), True)
            number = counting.number_of(tiles, bare(2, 3), floor)
            self.assertEqual(corners.corners_of(counting.fill(tiles, bare(2, 3), number)), corner_map)
            self.assertEqual(texts.read_floor(tiles, texts.floor_text(floor)), floor)
            self.assertEqual(tallies.seams(tiles, floor), (7, 0))
            self.assertEqual(mending.least_cost(tiles, floor, ((1,) * 3,) * 2), (0, 1))

    def test_told_by_other_numbers_it_is_the_same_floor(self):
        chance = Random(1612)
        for tiles, floor in some_pairs(1613, 40, ((1, 3), (2, 2), (3, 2), (2, 4)), 0.7, colours=2):
            order = tuple(chance.sample(range(len(tiles)), len(tiles)))
            other, told = changing.set_by(tiles, order), changing.floor_by(tiles, floor, order)
            self.assertEqual(floors.clashes(other, told), floors.clashes(tiles, floor))
            self.assertEqual(counting.count_fills(other, told), counting.count_fills(tiles, floor))
            self.assertEqual(rounds.count_rounds(other, told), rounds.count_rounds(tiles, floor))
            weights = ((1,) * len(floor[0]),) * len(floor)
            self.assertEqual(mending.least_cost(other, told, weights), mending.least_cost(tiles, floor, weights))
            self.assertEqual(tallies.colours_on(other, told), tallies.colours_on(tiles, floor))
            self.assertEqual(tallies.seams(other, told), tallies.seams(tiles, floor))
            self.assertEqual(layers.areas(told), layers.areas(floor))
            places = [place for place, _ in knowing.forced(tiles, floor)]
            self.assertEqual([place for place, _ in knowing.forced(other, told)], places)

    def test_an_album_joins_as_beside_and_below_do(self):
        chance = Random(1614)
        for _ in range(40):
            one, other = (some_floor(chance, ROWS, *(chance.randint(1, 3) for _ in range(2))) for _ in range(2))
            album = albums.Album(ROWS)
            album.put("one", one)
            album.put("other", other)
            for is_east, tell in ((True, turning.beside), (False, turning.below)):
                if refusal(tell, one, other) is None:
                    self.assertEqual(album.join("whole", "one", "other", is_east), tell(one, other))
                else:
                    self.assertIs(refusal(album.join, "whole", "one", "other", is_east), Unlike)

    def test_areas_and_windows_tell_of_the_same_tiles(self):
        chance = Random(1615)
        for _ in range(30):
            floor = some_floor(chance, PAIR, 4, 4, 0.3)
            found = [place for number in (0, 1) for place in tallies.windows(floor, ((number,),))]
            self.assertEqual(sorted(found), laid(floor))
            many = sum(len(area) for area in layers.areas(floor) if floor[area[0][0]][area[0][1]] is not None)
            self.assertEqual(many, sum(count for _, count in tallies.tally(floor)))

    def test_no_refusal_is_another_one(self):
        painter, album = painters.Painter(PAIR, ((0, 0),)), albums.Album(PAIR)
        album.put("a", ((0, 0),))
        album.put("d", bare(2, 2))
        for wanted, call, *things in (
            (NoPlace, floors.tile_at, ((0,),), (0, 1)), (NoPlace, floors.with_tile, PAIR, ((0,),), (1, 0), 9),
            (NoTile, floors.with_tile, PAIR, ((0,),), (0, 0), 9), (NoFill, counting.fill, PAIR, bare(1, 1), 2),
            (NoFill, counting.number_of, PAIR, ((0,),), ((1,),)), (NoPlace, knowing.counts_at, PAIR, ((0,),), (0, 1)),
            (NoPlace, knowing.may_stand, PAIR, ((0,),), (0, 1)), (Unlike, mending.cost_of, ((0,),), ((0,),), ((0, 0),)),
            (Unlike, mending.least_cost, PAIR, ((0,),), ((0, 0),)), (Unlike, mending.mended, PAIR, ((0,),), ((0, 0),)),
            (NoFill, mending.mended, PAIR[1:], ((0, 0),), ((1, 1),)), (Unlike, turning.beside, ((0,),), ((0,), (0,))),
            (Unlike, turning.below, ((0,),), ((0, 0),)), (NoFill, rounds.first_round, PAIR, ((1,),)),
            (Unlike, corners.corners_of, ((0, 15),)), (NoPlace, corners.with_corner, ((0, 0), (0, 0)), (2, 0), 1),
            (Unlike, layers.over, ((0,),), ((0, 0),)), (NoPlace, layers.area, ((0,),), (0, 1)),
            (NoPlace, layers.poured, PAIR, ((0,),), (0, 1), 9), (NoTile, layers.poured, PAIR, ((0,),), (0, 0), 9),
            (NoPlace, painter.put, (1, 0), 9), (NoTile, painter.put, (0, 0), 9), (NoPlace, painter.pour, (1, 0), 9),
            (NoTile, painter.pour, (0, 0), 9), (NoFill, painter.finish, ((1, 1),)), (Nothing, painter.undo),
            (Nothing, painter.redo), (NoText, texts.read_set, ""), (NoText, texts.read_floor, PAIR, ""),
            (NoPlace, changing.exchanged, PAIR, ((0,),), (0, 0), (0, 1)), (NoTile, changing.set_by, PAIR, (0, 0)),
            (NoTile, changing.floor_by, PAIR, ((0,),), (0,)), (NoTile, changing.replaced, PAIR, ((0,),), 1, 2),
            (Unlike, albums.Album, ()), (NoName, album.put, "", ()), (Unlike, album.put, "a", ()),
            (NoName, album.floor_of, "b"), (NoName, album.take, "b"), (NoName, album.join, "", "a", "a", True),
            (NoName, album.join, "b", "a", "c", True), (Unlike, album.join, "b", "a", "d", True), (Nothing, album.forth),
            (Nothing, albums.Album(PAIR).back), (NoText, albums.read_album, ""),
        ):
            self.assertIs(refusal(call, *things), wanted, call)
        self.assertEqual((painter.steps(), painter.floor()), ((0, 0), ((0, 0),)))
        self.assertEqual((album.sizes(), album.names()), ((2, 0), ["a", "d"]))


if __name__ == "__main__":
    unittest.main()
