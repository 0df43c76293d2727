"""Albums and their texts: 13.1, 13.2, 14.1, 0.2 (i) and (k), and 0.3 as far as it speaks of them."""

import copy
import unittest
from itertools import product
from random import Random

from floorfits.albums import Album, album_text, read_album
from floorfits.errors import NoName, Nothing, NoText, Unlike
from floorfits.floors import is_floor
from floorfits.texts import floor_text, set_text
from tests.plain import (
    EVERY, FREE, LONE, ODD, PAIR, ROWS, SIXTEEN, STRANGE, bare, lines_moved, near_texts, plain_album_text, refusal,
    sixteen, some_floor, some_set,
)

NO_NAMES = (
    "", "abcdefg", "abcdefgh", "A", "aB", "ABC", "a b", " ", " a", "a ", "a1", "1", "0", "a-b", "--", "a_b", "_", "`",
    "{", "a`", "a{", "a\n", "\n", "\na", "a\t", "\xe9", "a\xe9", "\u0430", "\xdf", "\uff41", "a.", "@", "[", "z|",
    0, 1, -1, 7, True, False, None, [], ["a"], [["a"]], (), ("a",), ("a", "b"), (("a",),), [None], (None, True),
    [[[[["a"]]]]], ((((("a",),),),),),
)
NAMES = ("a", "b", "z", "ab", "abcdef", "zzzzzz", "aaaaaa", "q", "old", "new")
# Things that are no floor of PAIR.
NO_FLOORS = ODD + (
    ((2,),), ((0, 1), (0,)), [[0, 1]], ([0, 1],), [(0, 1)], ((True,),), ((False, 0),), ((-1,),), "0 1", ((0, "1"),),
    ((0,),) * 7, ((0,) * 7,), bare(7, 1), bare(1, 7), (0, 1), ((),), ((0, 1), None), ((0, [1]),), (((0,),),),
)


def told_of(album):
    return ({name: album.floor_of(name) for name in album.names()}, album.sizes(), album.set_of())


def filled(tiles, named):
    album = Album(tiles)
    for name, floor in named.items():
        album.put(name, floor)
    return album


def plain_join(one, other, is_east):
    """The floor that comes of two, or None."""
    if is_east:
        whole = tuple(row + more for row, more in zip(one, other)) if len(one) == len(other) else None
    else:
        whole = one + other if len(one[0]) == len(other[0]) else None
    return whole if whole is not None and len(whole) <= 6 and len(whole[0]) <= 6 else None


class Log:
    """What an album should tell: all its floors behind each deed, the deeds' words, and where it is now."""

    def __init__(self):
        self.states = [{}]
        self.words = []
        self.at = 0

    def now(self):
        return self.states[self.at]

    def sizes(self):
        return (self.at, len(self.words) - self.at)

    def do(self, word, named):
        self.states = self.states[:self.at + 1] + [named]
        self.words = self.words[:self.at] + [word]
        self.at += 1

    def copied(self):
        other = Log()
        other.states, other.words, other.at = list(self.states), list(self.words), self.at
        return other


class Begun(unittest.TestCase):
    def test_no_floors(self):
        for tiles in (LONE, PAIR, FREE, sixteen()):
            album = Album(tiles)
            self.assertEqual(album.names(), [])
            self.assertEqual(album.set_of(), tiles)
            self.assertEqual(album.sizes(), (0, 0))
            self.assertIs(refusal(album.back), Nothing)
            self.assertIs(refusal(album.forth), Nothing)
            self.assertIs(refusal(album.floor_of, "a"), NoName)

    def test_what_is_no_set(self):
        for thing in ODD + (
            list(PAIR), [list(tile) for tile in PAIR], ((0, 1, 2),), ((0, 1, 2, 9),), PAIR + PAIR, ((True, 0, 0, 0),),
            PAIR[0], "0101\n", ((0, 0, 0, -1),), tuple(product(range(2), range(3), range(3), range(1))),
            (PAIR, PAIR), ([0, 1, 0, 1],), ((0, 0, 0, 0), [0, 1, 0, 1]),
        ):
            self.assertIs(refusal(Album, thing), Unlike)

    def test_two_albums_of_one_set(self):
        one, other = Album(PAIR), Album(PAIR)
        one.put("a", ((0,),))
        self.assertEqual(told_of(other), ({}, (0, 0), PAIR))
        other.put("b", ((1,),))
        other.back()
        self.assertEqual(told_of(one), ({"a": ((0,),)}, (1, 0), PAIR))


class Put(unittest.TestCase):
    def test_by_hand(self):
        album = Album(PAIR)
        self.assertIs(album.put("a", ((0, None),)), False)
        self.assertEqual(album.floor_of("a"), ((0, None),))
        self.assertIs(album.put("b", ((1,),)), False)
        self.assertIs(album.put("a", ((1, 1),)), True)
        self.assertEqual(album.floor_of("a"), ((1, 1),))
        self.assertEqual(album.floor_of("b"), ((1,),))
        self.assertIs(album.put("a", ((1, 1),)), True)
        self.assertEqual(album.sizes(), (4, 0))

    def test_a_name_that_was_taken_is_free(self):
        album = filled(PAIR, {"a": ((0,),)})
        album.take("a")
        self.assertIs(album.put("a", ((0,),)), False)
        album.back()
        album.back()
        self.assertIs(album.put("a", ((0,),)), True)
        album.back()
        album.back()
        self.assertIs(album.put("a", ((0,),)), False)

    def test_names_of_one_to_six_letters(self):
        album = Album(PAIR)
        for many in range(1, 7):
            for letter in "abcdefghijklmnopqrstuvwxyz":
                self.assertIs(album.put(letter * many, ((0,),)), False)
        self.assertEqual(len(album.names()), 156)

    def test_what_is_no_name(self):
        album = filled(PAIR, {"a": ((0,),)})
        album.put("b", ((1,),))
        album.back()
        before = told_of(album)
        for name in NO_NAMES:
            self.assertIs(refusal(album.put, name, ((0,),)), NoName)
            self.assertIs(refusal(album.floor_of, name), NoName)
            self.assertIs(refusal(album.take, name), NoName)
            self.assertEqual(told_of(album), before)
        self.assertEqual(before[1], (1, 1))
        self.assertEqual(album.forth(), "put")

    def test_each_sign_as_a_name(self):
        album = Album(PAIR)
        for code in list(range(300)) + [8490, 65345, 120016]:
            for name in (chr(code), "a" + chr(code), chr(code) + "a"):
                wanted = None if "a" <= chr(code) <= "z" else NoName
                self.assertIs(refusal(album.put, name, ((0,),)), wanted)

    def test_what_is_no_floor(self):
        album = filled(PAIR, {"a": ((0,),), "b": ((1,),)})
        album.back()
        before = told_of(album)
        for floor in NO_FLOORS:
            self.assertIs(refusal(album.put, "a", floor), Unlike)
            self.assertIs(refusal(album.put, "new", floor), Unlike)
            self.assertEqual(told_of(album), before)
        self.assertEqual(album.forth(), "put")

    def test_no_name_is_due_ahead_of_unlike(self):
        album = Album(PAIR)
        for name in NO_NAMES:
            for floor in NO_FLOORS[::5]:
                self.assertIs(refusal(album.put, name, floor), NoName)
        self.assertEqual(told_of(album), ({}, (0, 0), PAIR))

    def test_floors_of_the_set(self):
        chance = Random(1301)
        for tiles in (LONE, PAIR, FREE, sixteen()):
            album = Album(tiles)
            for rows, columns in EVERY:
                floor = some_floor(chance, tiles, rows, columns, 0.3)
                album.put("a", floor)
                self.assertEqual(album.floor_of("a"), floor)
            self.assertIs(refusal(album.put, "a", ((len(tiles),),)), Unlike)
            self.assertIs(refusal(album.put, "a", ((0, -1),)), Unlike)

    def test_floors_that_clash_are_floors(self):
        album = Album(LONE)
        self.assertIs(album.put("a", ((0, 0), (0, 0))), False)


class FloorsAndNames(unittest.TestCase):
    def test_take(self):
        album = filled(PAIR, {"a": ((0,),), "b": ((1, 1),)})
        self.assertEqual(album.take("a"), ((0,),))
        self.assertEqual(album.names(), ["b"])
        self.assertEqual(album.sizes(), (3, 0))
        self.assertIs(refusal(album.floor_of, "a"), NoName)
        self.assertIs(refusal(album.take, "a"), NoName)
        self.assertEqual(album.sizes(), (3, 0))
        self.assertEqual(album.take("b"), ((1, 1),))
        self.assertEqual(album.names(), [])

    def test_floor_of_changes_nothing(self):
        album = filled(PAIR, {"a": ((0,),), "b": ((1,),)})
        album.back()
        for _ in range(3):
            self.assertEqual(album.floor_of("a"), ((0,),))
            self.assertIs(refusal(album.floor_of, "b"), NoName)
            self.assertEqual(album.sizes(), (1, 1))

    def test_names_that_no_floor_has(self):
        album = filled(PAIR, {"ab": ((0,),)})
        for name in ("a", "b", "abc", "ba", "zzzzzz"):
            self.assertIs(refusal(album.floor_of, name), NoName)
            self.assertIs(refusal(album.take, name), NoName)
        self.assertEqual(told_of(album), ({"ab": ((0,),)}, (1, 0), PAIR))

    def test_names_rise(self):
        album = Album(PAIR)
        for name in ("m", "b", "z", "ba", "aaaaaa", "a", "bb", "b"):
            album.put(name, ((0,),))
        self.assertEqual(album.names(), ["a", "aaaaaa", "b", "ba", "bb", "m", "z"])
        album.take("b")
        self.assertEqual(album.names(), ["a", "aaaaaa", "ba", "bb", "m", "z"])
        album.back()
        self.assertEqual(album.names(), ["a", "aaaaaa", "b", "ba", "bb", "m", "z"])


class Join(unittest.TestCase):
    def begun(self):
        return filled(PAIR, {"a": ((0,), (1,)), "b": ((1, None), (0, 0)), "c": ((1, 1),)})

    def test_east(self):
        album = self.begun()
        self.assertEqual(album.join("d", "a", "b", True), ((0, 1, None), (1, 0, 0)))
        self.assertEqual(album.floor_of("d"), ((0, 1, None), (1, 0, 0)))
        self.assertEqual(album.join("e", "b", "a", True), ((1, None, 0), (0, 0, 1)))
        self.assertEqual(album.names(), ["a", "b", "c", "d", "e"])
        self.assertEqual(album.sizes(), (5, 0))

    def test_below(self):
        album = self.begun()
        self.assertEqual(album.join("d", "b", "c", False), ((1, None), (0, 0), (1, 1)))
        self.assertEqual(album.floor_of("d"), ((1, None), (0, 0), (1, 1)))
        self.assertEqual(album.join("e", "c", "b", False), ((1, 1), (1, None), (0, 0)))
        self.assertEqual(album.floor_of("b"), ((1, None), (0, 0)))
        self.assertEqual(album.floor_of("c"), ((1, 1),))

    def test_with_the_name_of_one_of_the_two(self):
        album = self.begun()
        self.assertEqual(album.join("a", "a", "b", True), ((0, 1, None), (1, 0, 0)))
        self.assertEqual(album.floor_of("a"), ((0, 1, None), (1, 0, 0)))
        self.assertEqual(album.names(), ["a", "b", "c"])
        self.assertEqual(album.join("c", "b", "c", False), ((1, None), (0, 0), (1, 1)))
        self.assertEqual(album.floor_of("c"), ((1, None), (0, 0), (1, 1)))
        self.assertEqual([album.back(), album.back()], ["join", "join"])
        self.assertEqual(told_of(album)[0], told_of(self.begun())[0])

    def test_with_the_name_of_a_third(self):
        album = self.begun()
        album.join("c", "a", "b", True)
        self.assertEqual(album.floor_of("c"), ((0, 1, None), (1, 0, 0)))
        album.back()
        self.assertEqual(album.floor_of("c"), ((1, 1),))

    def test_with_itself(self):
        album = self.begun()
        self.assertEqual(album.join("c", "c", "c", True), ((1, 1, 1, 1),))
        self.assertEqual(album.join("a", "a", "a", False), ((0,), (1,), (0,), (1,)))

    def assertRefused(self, kind, *things):
        album = self.begun()
        album.put("z", ((0,),))
        album.put("y", ((0,) * 5,) * 2)
        album.put("x", ((0, 0),) * 5)
        album.put("a", ((1,),))
        album.back()
        before = told_of(album)
        self.assertIs(refusal(album.join, *things), kind)
        self.assertEqual(told_of(album), before)
        self.assertEqual(album.forth(), "put")
        self.assertEqual(album.floor_of("a"), ((1,),))

    def test_what_is_no_name(self):
        for name in NO_NAMES:
            for is_east in (True, False):
                self.assertRefused(NoName, name, "a", "b", is_east)
                self.assertRefused(NoName, "d", name, "b", is_east)
                self.assertRefused(NoName, "d", "a", name, is_east)

    def test_names_that_no_floor_has(self):
        for is_east in (True, False):
            self.assertRefused(NoName, "d", "d", "b", is_east)
            self.assertRefused(NoName, "d", "a", "d", is_east)
            self.assertRefused(NoName, "d", "d", "d", is_east)

    def test_not_as_many_rows_or_columns(self):
        self.assertRefused(Unlike, "d", "a", "c", True)
        self.assertRefused(Unlike, "d", "c", "b", True)
        self.assertRefused(Unlike, "d", "a", "c", False)
        self.assertRefused(Unlike, "d", "b", "a", False)
        self.assertRefused(Unlike, "a", "a", "c", True)

    def test_no_name_is_due_ahead_of_unlike(self):
        self.assertRefused(NoName, "D", "a", "c", True)
        self.assertRefused(NoName, "", "a", "c", False)
        self.assertRefused(NoName, 5, "y", "b", True)

    def test_where_it_were_no_floor(self):
        self.assertRefused(Unlike, "d", "y", "b", True)
        self.assertRefused(Unlike, "d", "b", "y", True)
        self.assertRefused(Unlike, "d", "y", "y", True)
        self.assertRefused(Unlike, "d", "x", "b", False)
        self.assertRefused(Unlike, "d", "b", "x", False)

    def test_just_as_great_as_a_floor_may_be(self):
        album = filled(PAIR, {"a": bare(2, 5), "b": ((1,), (0,)), "c": bare(5, 1), "d": ((1,),)})
        self.assertEqual(album.join("e", "a", "b", True), ((None,) * 5 + (1,), (None,) * 5 + (0,)))
        self.assertEqual(album.join("f", "d", "c", False), ((1,),) + bare(5, 1))

    def test_all_sizes(self):
        for size, other, is_east in product(EVERY, EVERY, (True, False)):
            album = filled(PAIR, {"a": bare(*size), "b": bare(*other)})
            wanted = plain_join(bare(*size), bare(*other), is_east)
            if wanted is None:
                self.assertIs(refusal(album.join, "c", "a", "b", is_east), Unlike)
                self.assertEqual(album.sizes(), (2, 0))
            else:
                self.assertEqual(album.join("c", "a", "b", is_east), wanted)
                self.assertEqual(album.floor_of("c"), wanted)
                self.assertIs(is_floor(PAIR, wanted), True)


class Steps(unittest.TestCase):
    def test_by_hand(self):
        album = Album(PAIR)
        album.put("a", ((0,),))
        album.put("b", ((1,),))
        album.join("a", "a", "b", True)
        album.take("b")
        self.assertEqual(told_of(album)[:2], ({"a": ((0, 1),)}, (4, 0)))
        self.assertEqual(album.back(), "take")
        self.assertEqual(told_of(album)[:2], ({"a": ((0, 1),), "b": ((1,),)}, (3, 1)))
        self.assertEqual(album.back(), "join")
        self.assertEqual(told_of(album)[:2], ({"a": ((0,),), "b": ((1,),)}, (2, 2)))
        self.assertEqual(album.back(), "put")
        self.assertEqual(told_of(album)[:2], ({"a": ((0,),)}, (1, 3)))
        self.assertEqual(album.back(), "put")
        self.assertEqual(told_of(album)[:2], ({}, (0, 4)))
        self.assertIs(refusal(album.back), Nothing)
        self.assertEqual([album.forth() for _ in range(4)], ["put", "put", "join", "take"])
        self.assertEqual(told_of(album)[:2], ({"a": ((0, 1),)}, (4, 0)))
        self.assertIs(refusal(album.forth), Nothing)
        self.assertEqual(told_of(album)[:2], ({"a": ((0, 1),)}, (4, 0)))

    def test_deeds_that_changed_nothing(self):
        album = filled(PAIR, {"a": ((0,),)})
        self.assertIs(album.put("a", ((0,),)), True)
        self.assertIs(album.put("a", ((0,),)), True)
        self.assertEqual(album.sizes(), (3, 0))
        self.assertEqual(album.back(), "put")
        self.assertEqual(told_of(album)[:2], ({"a": ((0,),)}, (2, 1)))
        self.assertEqual(album.back(), "put")
        self.assertEqual(told_of(album)[:2], ({"a": ((0,),)}, (1, 2)))
        self.assertEqual(album.back(), "put")
        self.assertEqual(told_of(album)[:2], ({}, (0, 3)))
        self.assertEqual([album.forth(), album.forth()], ["put", "put"])
        # It takes away what can be done again, too, though it changes nothing.
        album.put("a", ((0,),))
        self.assertEqual(album.sizes(), (3, 0))
        self.assertIs(refusal(album.forth), Nothing)

    def test_a_join_that_changed_nothing(self):
        album = filled(PAIR, {"a": ((0,),), "b": ((1,),), "c": ((0, 1),)})
        self.assertEqual(album.join("c", "a", "b", True), ((0, 1),))
        self.assertEqual(album.sizes(), (4, 0))
        self.assertEqual(album.back(), "join")
        self.assertEqual(album.floor_of("c"), ((0, 1),))
        self.assertEqual(album.sizes(), (3, 1))

    def test_nothing_forth_behind_another_deed(self):
        for deed in (
            lambda album: album.put("z", ((0,),)), lambda album: album.take("a"),
            lambda album: album.join("z", "a", "a", True), lambda album: album.put("a", ((0,),)),
        ):
            album = filled(PAIR, {"a": ((0,),), "b": ((1,),), "c": ((1,),)})
            album.back()
            album.back()
            self.assertEqual(album.sizes(), (1, 2))
            deed(album)
            self.assertEqual(album.sizes(), (2, 0))
            self.assertIs(refusal(album.forth), Nothing)
            album.back()
            self.assertEqual(told_of(album)[:2], ({"a": ((0,),)}, (1, 1)))

    def test_a_refusal_leaves_what_can_be_done_again(self):
        album = filled(PAIR, {"a": ((0,),), "b": ((1, 1),)})
        album.put("a", ((1,), (1,)))
        album.back()
        for call, things, kind in (
            (album.put, ("", ((0,),)), NoName), (album.put, ("c", ((2,),)), Unlike), (album.take, ("c",), NoName),
            (album.join, ("c", "c", "a", True), NoName), (album.join, ("c", "a", "b", False), Unlike),
            (album.floor_of, ("c",), NoName),
        ):
            self.assertIs(refusal(call, *things), kind)
            self.assertEqual(told_of(album), ({"a": ((0,),), "b": ((1, 1),)}, (2, 1), PAIR))
        self.assertEqual(album.forth(), "put")
        self.assertEqual(album.floor_of("a"), ((1,), (1,)))


class Twins(unittest.TestCase):
    def begun(self):
        album = filled(PAIR, {"a": ((0,),), "b": ((1,),)})
        album.take("a")
        album.join("c", "b", "b", False)
        album.back()
        album.back()
        return album

    def test_as_this_one(self):
        album = self.begun()
        twin = album.twin()
        self.assertIsInstance(twin, Album)
        self.assertIsNot(twin, album)
        self.assertEqual(told_of(twin), ({"a": ((0,),), "b": ((1,),)}, (2, 2), PAIR))
        self.assertEqual(told_of(twin), told_of(album))

    def test_its_steps_go_both_ways(self):
        twin = self.begun().twin()
        self.assertEqual([twin.forth(), twin.forth()], ["take", "join"])
        self.assertEqual(told_of(twin)[:2], ({"b": ((1,),), "c": ((1,), (1,))}, (4, 0)))
        self.assertIs(refusal(twin.forth), Nothing)
        self.assertEqual([twin.back() for _ in range(4)], ["join", "take", "put", "put"])
        self.assertEqual(told_of(twin)[:2], ({}, (0, 4)))
        self.assertIs(refusal(twin.back), Nothing)

    def test_each_goes_by_itself(self):
        for deed in (
            lambda album: album.put("a", ((1,),)), lambda album: album.put("d", ((1,),)),
            lambda album: album.take("b"), lambda album: album.join("a", "a", "b", True), lambda album: album.back(),
            lambda album: album.forth(), lambda album: [album.back(), album.back()],
            lambda album: [album.forth(), album.forth()], lambda album: [album.back(), album.put("q", ((0,),))],
        ):
            for is_first in (True, False):
                album = self.begun()
                twin = album.twin()
                before = told_of(album)
                one, other = (album, twin) if is_first else (twin, album)
                deed(one)
                self.assertNotEqual(told_of(one), before)
                self.assertEqual(told_of(other), before)
                self.assertEqual([other.forth(), other.forth()], ["take", "join"])
                self.assertEqual([other.back() for _ in range(4)], ["join", "take", "put", "put"])

    def test_twin_is_no_deed(self):
        album = self.begun()
        album.twin()
        self.assertEqual(album.sizes(), (2, 2))

    def test_a_twin_of_a_twin(self):
        twin = self.begun().twin()
        twin.forth()
        third = twin.twin()
        twin.back()
        self.assertEqual(told_of(third)[:2], ({"b": ((1,),)}, (3, 1)))
        self.assertEqual(Album(PAIR).twin().sizes(), (0, 0))


class AgainstALog(unittest.TestCase):
    def some_deed(self, chance, album, log):
        word = chance.choice(("put", "put", "put", "take", "join", "join", "back", "back", "forth"))
        name = chance.choice(("a", "b", "c", "d", "A"))
        named = dict(log.now())
        if word == "put":
            floor = some_floor(chance, PAIR, *chance.choice(SIXTEEN[:8]), 0.3)
            self.assertEqual(*self.told(album.put, (name, floor), NoName if name == "A" else name in named))
            named[name] = floor
        elif word == "take":
            self.assertEqual(*self.told(album.take, (name,), named.pop(name, NoName)))
        elif word == "join":
            one, other, is_east = chance.choice("abcd"), chance.choice("abcd"), chance.random() < 0.5
            if name == "A" or one not in named or other not in named:
                wanted = NoName
            else:
                wanted = plain_join(named[one], named[other], is_east) or Unlike
            self.assertEqual(*self.told(album.join, (name, one, other, is_east), wanted))
            named[name] = wanted
            if wanted in (NoName, Unlike):
                return
        else:
            by = -1 if word == "back" else 1
            if not 0 <= log.at + by <= len(log.words):
                self.assertIs(refusal(getattr(album, word)), Nothing)
            else:
                log.at += by
                self.assertEqual(getattr(album, word)(), log.words[min(log.at, log.at - by)])
            return
        if name != "A" and (word != "take" or name in log.now()):
            log.do(word, named)

    def told(self, call, things, wanted):
        return (refusal(call, *things) if isinstance(wanted, type) else call(*things)), wanted

    def test_long_ways(self):
        seen = set()
        for seed in range(80):
            chance = Random(1400 + seed)
            album, log = Album(PAIR), Log()
            for _ in range(50):
                self.some_deed(chance, album, log)
                self.assertEqual(told_of(album), (log.now(), log.sizes(), PAIR))
                self.assertEqual(album.names(), sorted(log.now()))
                seen.add((len(log.now()), log.sizes()[1] > 2))
                if chance.random() < 0.1:
                    kept, kept_log = album, log.copied()
                    album = album.twin()
                    self.some_deed(chance, album, log)
                    self.assertEqual(told_of(kept), (kept_log.now(), kept_log.sizes(), PAIR))
            states, words = list(log.states), list(log.words)
            while refusal(album.forth) is None:
                pass
            for at in range(len(words), 0, -1):
                self.assertEqual(told_of(album)[:2], (states[at], (at, len(words) - at)))
                self.assertEqual(album.back(), words[at - 1])
            self.assertEqual(told_of(album)[:2], ({}, (0, len(words))))
        self.assertGreaterEqual(len(seen), 7)


class Texts(unittest.TestCase):
    def test_by_hand(self):
        self.assertEqual(album_text(Album(PAIR)), "0101\n1100\n")
        self.assertEqual(album_text(filled(LONE, {"a": ((0,),)})), "0123\n--\na\n0\n")
        album = filled(PAIR, {"b": ((0, None), (1, 1)), "ab": ((None,),), "a": ((1, 0),)})
        self.assertEqual(album_text(album), "0101\n1100\n--\na\n1 0\n--\nab\n-\n--\nb\n0 -\n1 1\n")

    def test_read_by_hand(self):
        album = read_album("0101\n1100\n--\na\n1 0\n--\nab\n-\n--\nb\n0 -\n1 1\n")
        self.assertIsInstance(album, Album)
        named = {"a": ((1, 0),), "ab": ((None,),), "b": ((0, None), (1, 1))}
        self.assertEqual(told_of(album), (named, (0, 0), PAIR))
        self.assertEqual(told_of(read_album("0123\n")), ({}, (0, 0), LONE))

    def test_what_is_read_is_new_and_without_steps(self):
        album = filled(PAIR, {"a": ((0,),), "b": ((1,),)})
        album.take("b")
        album.back()
        other = read_album(album_text(album))
        self.assertEqual(other.sizes(), (0, 0))
        self.assertIs(refusal(other.back), Nothing)
        self.assertIs(refusal(other.forth), Nothing)
        self.assertIs(other.put("a", ((1,),)), True)
        self.assertEqual(other.sizes(), (1, 0))
        self.assertEqual(album.floor_of("a"), ((0,),))
        self.assertEqual(album.sizes(), (2, 1))
        self.assertEqual(other.back(), "put")
        self.assertEqual(told_of(other), ({"a": ((0,),), "b": ((1,),)}, (0, 1), PAIR))

    def test_writing_changes_nothing(self):
        album = filled(PAIR, {"a": ((0,),), "b": ((1,),)})
        album.back()
        before = told_of(album)
        self.assertEqual(album_text(album), album_text(album))
        self.assertEqual(told_of(album), before)

    def test_it_hangs_on_what_is_there_alone(self):
        album = filled(PAIR, {"b": ((1,),), "c": ((1,),), "a": ((0,),)})
        album.take("c")
        album.put("b", ((0,),))
        album.back()
        self.assertEqual(album_text(album), album_text(filled(PAIR, {"a": ((0,),), "b": ((1,),)})))

    def test_they_lead_back(self):
        chance = Random(1501)
        for _ in range(60):
            tiles = chance.choice((LONE, PAIR, FREE, ROWS, sixteen(), some_set(chance, 5, 9)))
            named = {
                name: some_floor(chance, tiles, *chance.choice(EVERY), chance.choice((0, 0.4, 1)))
                for name in chance.sample(NAMES, chance.randrange(6))
            }
            album = filled(tiles, named)
            text = album_text(album)
            wanted = set_text(tiles) + "".join(f"--\n{name}\n{floor_text(named[name])}\n" for name in sorted(named))
            self.assertEqual(text, wanted)
            self.assertEqual(plain_album_text(text), (tiles, named))
            other = read_album(text)
            self.assertEqual(told_of(other), (named, (0, 0), tiles))
            self.assertEqual(album_text(other), text)


class NoTexts(unittest.TestCase):
    TEXTS = (
        "0123\n", "0101\n1100\n", "0123\n--\na\n0\n", "0101\n1100\n--\nab\n0 -\n1 1\n", "0000\n--\na\n-\n--\nb\n0\n",
        "0101\n1100\n--\na\n0\n--\nab\n- -\n1 0\n--\nb\n1\n0\n", "0121\n--\nabcdef\n0 0 0 0 0 0\n",
    )

    def assertRead(self, text):
        wanted = plain_album_text(text)
        if wanted is None:
            self.assertIs(refusal(read_album, text), NoText, text)
        else:
            album = read_album(text)
            self.assertEqual(told_of(album), (wanted[1], (0, 0), wanted[0]))
            self.assertEqual(album_text(album), text)
        return wanted is None

    def test_by_hand(self):
        for text in (
            "", "\n", "0123", "0123\n\n", "0123\n--\n", "0123\n--\na\n", "0123\n--\na\n\n", "0123\n--\na\n0",
            "0123\n--\na\n0\n\n", "0123\n--\n0\n", "0123\n--\n\n0\n", "--\na\n0\n", "\n--\na\n0\n", "a\n0\n",
            "0123\na\n0\n", "0123\n-\na\n0\n", "0123\n---\na\n0\n", "0123\n-- \na\n0\n", "0123\n --\na\n0\n",
            "0123\n--\nA\n0\n", "0123\n--\nabcdefg\n0\n", "0123\n--\na b\n0\n", "0123\n--\na1\n0\n", "0123\n--\n a\n0\n",
            "0123\n--\na\n1\n", "0123\n--\na\n00\n", "0123\n--\na\n0 0\n0\n", "0123\n--\na\n0\n--\n", "0129\n--\na\n0\n",
            "0123\n--\nb\n0\n--\na\n0\n", "0123\n--\na\n0\n--\na\n0\n", "0123\n--\na\n0\n--\na\n-\n",
            "0123\n--\nb\n0\n--\nab\n0\n", "0123\n--\na\n0\na\n0\n", "0123\n--\n--\na\n0\n", "0123\n0123\n--\na\n0\n",
            "0123\n--\na\n0\n--\n--\nb\n0\n", "0123\r\n", "0123\r\n--\r\na\r\n0\r\n", "0123\n--\na\n0\n--", "0123\n--",
            "0123\n--\na\n" + "0\n" * 7, "0123\n--\na\n0 0 0 0 0 0 0\n", "0123\n--\na\n--\n", "0123\n--\na\n-\n--\n-\n",
            "0123\n--\nc\n0\n--\na\n0\n--\nb\n0\n", "0123\n--\na\n0\n--\nc\n0\n--\nb\n0\n", "0123\n--\nba\n0\n--\nb\n0\n",
        ):
            self.assertIs(refusal(read_album, text), NoText, text)

    def test_a_sign_put_in_taken_out_or_exchanged(self):
        for text in self.TEXTS:
            refused = [self.assertRead(near) for near in near_texts(text)]
            self.assertIn(True, refused)
            self.assertIn(False, refused)

    def test_strange_signs(self):
        for text in self.TEXTS[:4]:
            for near in near_texts(text, STRANGE):
                self.assertRead(near)

    def test_two_signs(self):
        signs = ("0", "a", " ", "\n", "-")
        for text in near_texts("0123\n--\na\n0\n", signs):
            for other in near_texts(text, signs):
                self.assertRead(other)

    def test_lines_moved(self):
        for text in self.TEXTS:
            for other in lines_moved(text):
                self.assertRead(other)
                for third in lines_moved(other):
                    self.assertRead(third)

    def test_names_in_their_order(self):
        for names in product(("a", "ab", "b", "ba"), repeat=3):
            text = "0123\n" + "".join(f"--\n{name}\n0\n" for name in names)
            refused = self.assertRead(text)
            self.assertIs(refused, not names[0] < names[1] < names[2])

    def test_names_that_are_none(self):
        for name in NO_NAMES:
            self.assertIs(refusal(read_album, f"0123\n--\n{name}\n0\n"), NoText, name)
            self.assertIs(refusal(read_album, f"0123\n--\n{name}\n0\n--\nz\n0\n"), NoText, name)

    def test_floors_that_are_none_of_the_set(self):
        for many in range(1, 6):
            tiles = FREE[:many]
            for number in range(8):
                refused = refusal(read_album, set_text(tiles) + f"--\na\n0 {number}\n")
                self.assertIs(refused, None if number < many else NoText)

    def test_sets_of_one_to_sixteen_tiles(self):
        tiles = list(product(range(9), repeat=4))
        for many in range(20):
            for rest in ("", "--\na\n0\n"):
                refused = refusal(read_album, set_text(tiles[:many]) + rest)
                self.assertIs(refused, None if 1 <= many <= 16 else NoText)

    def test_things_that_are_no_text(self):
        for thing in ODD + (
            5, PAIR, list(PAIR), ["0123\n"], ("0123\n",), [["0123\n"]], b"0123\n", (("0123\n",), None), ["0123", "--"],
        ):
            self.assertIs(refusal(read_album, thing), NoText)
        self.assertIs(refusal(read_album, Album(PAIR)), NoText)


class Kept(unittest.TestCase):
    def test_told_lists_are_new_ones(self):
        album = filled(PAIR, {"a": ((0,),), "b": ((1,),)})
        told = album.names()
        told.append("more")
        told[0] = None
        self.assertEqual(album.names(), ["a", "b"])
        album.names().clear()
        self.assertEqual(album.names(), ["a", "b"])
        self.assertIs(refusal(album.floor_of, "more"), NoName)

    def test_what_is_handed_in_is_as_it_was(self):
        kept = (PAIR, ((0, None),), [["a"]], ["0123\n"])
        before = copy.deepcopy(kept)
        tiles, floor, name, text = kept
        album = Album(tiles)
        album.put("a", floor)
        album.join("a", "a", "a", True)
        album.put("b", floor)
        album.take("a")
        album.back()
        self.assertIs(refusal(album.put, name, floor), NoName)
        self.assertIs(refusal(album.put, "a", name), Unlike)
        self.assertIs(refusal(album.join, name, name, name, True), NoName)
        self.assertIs(refusal(read_album, text), NoText)
        self.assertIs(refusal(Album, name), Unlike)
        self.assertEqual(kept, before)

    def test_kinds(self):
        album = filled(PAIR, {"a": ((0,),)})
        self.assertIsInstance(album.names(), list)
        self.assertIsInstance(album.sizes(), tuple)
        self.assertEqual({type(many) for many in album.sizes()}, {int})
        self.assertIsInstance(album_text(album), str)


if __name__ == "__main__":
    unittest.main()
