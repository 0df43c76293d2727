"""Sets for the tests, and the document's words put as plainly and slowly as can be."""

import re
from itertools import product
from random import Random

from floorfits.errors import FloorError

NORTH, EAST, SOUTH, WEST = range(4)

PAIR = ((0, 1, 0, 1), (1, 1, 0, 0))
# Fits nowhere beside itself.
LONE = ((0, 1, 2, 3),)
# All fit beside each other.
FREE = ((0, 0, 0, 0), (1, 0, 0, 0), (2, 0, 0, 0), (3, 0, 0, 0), (4, 0, 0, 0))
# All fit beside each other, and each below some of them.
ROWS = ((0, 5, 1, 5), (1, 5, 2, 5), (2, 5, 0, 5), (0, 5, 2, 5), (1, 5, 1, 5))

# Colours that go up from row to row, so that floors of four rows and more have no fill.
STAIRS = ((0, 0, 1, 0), (1, 0, 2, 0), (2, 0, 3, 0), (0, 1, 1, 1), (1, 1, 2, 1))
# Each fits only beside and below the other one.
BOARD = ((0, 1, 1, 0), (1, 0, 0, 1))

SMALL = ((1, 1), (1, 2), (1, 3), (1, 4), (2, 1), (3, 1), (4, 1), (2, 2))
EIGHT = tuple((r, c) for r, c in product(range(1, 7), repeat=2) if r * c <= 8)
SIXTEEN = tuple((r, c) for r, c in product(range(1, 7), repeat=2) if r * c <= 16)
EVERY = tuple(product(range(1, 7), repeat=2))

# Things that are no set, no tile, no floor and no row, whatever stands in them.
ODD = (
    None, True, False, 0, 1, -1, 10 ** 30, "", "0", "0123", "abc", (), [], [()], ((),), [[]], ([],),
    (None,), [None], (True,), ("",), ("0123",), ((((None,),),),), [[[[[0]]]]], (((((0, 1, 2, 3),),),),),
    ((((), [], None, True),),), ([[(["a"],)]],), [((0, 1, 2, 3),)], ("0", 1, None, False),
    ((0, 1, 2, 3), None), ((0, 1, 2, 3), "abcd"), (((0, 0, 0, 0),) * 4,), ({},), {},
)

SIGNS = tuple(chr(code) for code in range(ord(" "), ord("~") + 1)) + ("\n",)
# Signs that some readings take for blanks, line feeds, figures or letters.
STRANGE = ("\r", "\t", "\0", "\x0b", "\x0c", "\x1c", "\x85", "\xa0", "\xb2", "\u0663", "\uff10", "\u2028", "\xe9")


def sixteen():
    """The set of 7.1: one tile for each choice of colours 0 and 1 at its four corners."""
    return tuple(
        (3 * nw + ne, 3 * ne + se, 3 * sw + se, 3 * nw + sw)
        for nw, ne, se, sw in product((0, 1), repeat=4)
    )


def some_set(chance, most=5, colours=3):
    tiles = []
    for _ in range(chance.randint(1, most)):
        tile = tuple(chance.randrange(colours) for _ in range(4))
        if tile not in tiles:
            tiles.append(tile)
    return tuple(tiles)


def some_floor(chance, tiles, rows, columns, blank=0.5):
    return tuple(
        tuple(None if chance.random() < blank else chance.randrange(len(tiles)) for _ in range(columns))
        for _ in range(rows)
    )


def some_pairs(seed, many, sizes, blank=0.5, most=5, colours=3):
    """Sets with a floor each, the same ones in every run."""
    chance = Random(seed)
    for _ in range(many):
        tiles = some_set(chance, most, colours)
        rows, columns = chance.choice(sizes)
        yield tiles, some_floor(chance, tiles, rows, columns, blank)


def plain_clashes(tiles, floor):
    found = []
    for r, row in enumerate(floor):
        for c, number in enumerate(row):
            if number is None:
                continue
            if c + 1 < len(row) and row[c + 1] is not None:
                if tiles[number][EAST] != tiles[row[c + 1]][WEST]:
                    found.append(((r, c), "east"))
            if r + 1 < len(floor) and floor[r + 1][c] is not None:
                if tiles[number][SOUTH] != tiles[floor[r + 1][c]][NORTH]:
                    found.append(((r, c), "south"))
    return found


def all_floors(tiles, rows, columns):
    """All full floors, in order by their numbers, row by row."""
    for flat in product(range(len(tiles)), repeat=rows * columns):
        yield tuple(flat[r * columns:(r + 1) * columns] for r in range(rows))


def keeps(floor, whole):
    return all(
        number is None or number == whole[r][c]
        for r, row in enumerate(floor)
        for c, number in enumerate(row)
    )


def plain_fills(tiles, floor):
    return [
        whole
        for whole in all_floors(tiles, len(floor), len(floor[0]))
        if keeps(floor, whole) and not plain_clashes(tiles, whole)
    ]


def grow(tiles, floor, whole):
    """All ways to go on with rows begun, tile by tile; quicker than trying all floors, and as plain."""
    step = sum(len(row) for row in whole)
    columns = len(floor[0])
    if step == len(floor) * columns:
        yield tuple(tuple(row) for row in whole)
        return
    r, c = divmod(step, columns)
    for number in range(len(tiles)):
        if floor[r][c] is not None and floor[r][c] != number:
            continue
        if c > 0 and tiles[whole[r][c - 1]][EAST] != tiles[number][WEST]:
            continue
        if r > 0 and tiles[whole[r - 1][c]][SOUTH] != tiles[number][NORTH]:
            continue
        rows = [list(row) for row in whole]
        if c == 0:
            rows.append([])
        rows[r].append(number)
        yield from grow(tiles, floor, rows)


def grown_fills(tiles, floor):
    return list(grow(tiles, floor, []))


def bare(rows, columns):
    return ((None,) * columns,) * rows


def laid(floor):
    return [(r, c) for r, row in enumerate(floor) for c, number in enumerate(row) if number is not None]


def spoilt(whole, index, thing):
    return whole[:index] + (thing,) + whole[index + 1:]


def changed(floor, place, number):
    rows = [list(row) for row in floor]
    rows[place[0]][place[1]] = number
    return tuple(tuple(row) for row in rows)


def plain_cost(floor, weights, whole):
    return sum(weights[r][c] for r, c in laid(floor) if floor[r][c] != whole[r][c])


def plain_joined(tiles, floor):
    return all(tiles[row[-1]][EAST] == tiles[row[0]][WEST] for row in floor)


def some_weights(chance, rows, columns, most=3):
    return tuple(tuple(chance.randint(0, most) for _ in range(columns)) for _ in range(rows))


def outside(floor):
    rows, columns = len(floor), len(floor[0])
    return (
        (-1, 0), (0, -1), (-1, -1), (-rows, 0), (0, -columns), (rows, 0), (0, columns),
        (rows, columns), (rows - 1, columns), (rows, columns - 1), (rows + 9, 0), (0, columns + 9), (-9, 0), (0, -9),
    )


def refusal(call, *things):
    """The very class of the refusal, or None where there is none."""
    try:
        call(*things)
    except FloorError as error:
        return type(error)
    return None


def near_texts(text, signs=SIGNS):
    """All texts with one sign put in, taken out or exchanged, and the text itself now and then."""
    for at in range(len(text) + 1):
        yield text[:at] + text[at + 1:]
        for sign in signs:
            yield text[:at] + sign + text[at:]
            yield text[:at] + sign + text[at + 1:]


def lines_moved(text):
    """All texts with one line left out, told twice, or exchanged with another one."""
    lines = text.split("\n")
    for at in range(len(lines)):
        yield "\n".join(lines[:at] + lines[at + 1:])
        yield "\n".join(lines[:at] + [lines[at]] + lines[at:])
        for other in range(at):
            moved = list(lines)
            moved[at], moved[other] = lines[other], lines[at]
            yield "\n".join(moved)


def plain_set_text(text):
    """The set of which a text is the writing, or None."""
    if not re.fullmatch(r"([0-8]{4}\n){1,16}", text, re.A):
        return None
    tiles = tuple(tuple(int(sign) for sign in line) for line in text.split())
    return tiles if len(set(tiles)) == len(tiles) else None


def plain_floor_text(tiles, text):
    """The floor of a set of which a text is the writing, or None."""
    word = r"(-|0|[1-9][0-9]?)"
    if not re.fullmatch(rf"{word}( {word}){{0,5}}(\n{word}( {word}){{0,5}}){{0,5}}", text, re.A):
        return None
    rows = tuple(
        tuple(None if word == "-" else int(word) for word in line.split(" ")) for line in text.split("\n")
    )
    if len({len(row) for row in rows}) > 1:
        return None
    if any(number is not None and number >= len(tiles) for row in rows for number in row):
        return None
    return rows


def plain_album_text(text):
    """The set of the album of which a text is the writing, and its floors by their names; or None."""
    chunks = [[]]
    for line in text.split("\n")[:-1]:
        chunks.append([]) if line == "--" else chunks[-1].append(line)
    tiles = plain_set_text("".join(line + "\n" for line in chunks[0]))
    if tiles is None or not text.endswith("\n") or [] in chunks:
        return None
    named = {chunk[0]: plain_floor_text(tiles, "\n".join(chunk[1:])) for chunk in chunks[1:]}
    if None in named.values() or not all(re.fullmatch("[a-z]{1,6}", name) for name in named):
        return None
    return (tiles, named) if [chunk[0] for chunk in chunks[1:]] == sorted(named) else None
