"""Albums: floors of one set by their names, which go back and forth, and their texts."""

from floorfits.errors import NoName, Nothing, NoText, Unlike
from floorfits.floors import is_floor, is_set
from floorfits.texts import floor_text, read_floor, read_set, set_text
from floorfits.turning import below, beside

MOST_LETTERS = 6


def is_name(thing):
    if not isinstance(thing, str) or not 1 <= len(thing) <= MOST_LETTERS:
        return False
    return all(["a" <= sign <= "z" for sign in thing])


def refuse_no_name(thing):
    if not is_name(thing):
        raise NoName("this is no name")


# A deed is a tuple of its word, the name, and the floors that had it ahead of
# the deed and behind it; None where none had.
class Album:
    def __init__(self, tiles):
        if not is_set(tiles):
            raise Unlike("this is no set")
        self.tiles = tiles
        self.named = {}
        self.done = []
        self.undone = []

    def name_floor(self, name, floor):
        if floor is None:
            self.named.pop(name, None)
        else:
            self.named[name] = floor

    def do(self, word, name, floor):
        self.done.append((word, name, self.named.get(name), floor))
        self.undone = []
        self.name_floor(name, floor)

    def put(self, name, floor):
        refuse_no_name(name)
        if not is_floor(self.tiles, floor):
            raise Unlike("this is no floor of the set")
        had = name in self.named
        self.do("put", name, floor)
        return had

    def floor_of(self, name):
        if not is_name(name) or name not in self.named:
            raise NoName("no floor has this name")
        return self.named[name]

    def take(self, name):
        floor = self.floor_of(name)
        self.do("take", name, None)
        return floor

    def join(self, name, one, other, is_east):
        refuse_no_name(name)
        first = self.floor_of(one)
        second = self.floor_of(other)
        whole = beside(first, second) if is_east else below(first, second)
        if not is_floor(self.tiles, whole):
            raise Unlike("both together are no floor")
        self.do("join", name, whole)
        return whole

    def names(self):
        return sorted(self.named)

    def set_of(self):
        return self.tiles

    def back(self):
        if len(self.done) == 0:
            raise Nothing("there is nothing to take back")
        deed = self.done.pop()
        self.undone.append(deed)
        self.name_floor(deed[1], deed[2])
        return deed[0]

    def forth(self):
        if len(self.undone) == 0:
            raise Nothing("there is nothing to do again")
        deed = self.undone.pop()
        self.done.append(deed)
        self.name_floor(deed[1], deed[3])
        return deed[0]

    def sizes(self):
        return (len(self.done), len(self.undone))

    def twin(self):
        other = Album(self.tiles)
        other.named = dict(self.named)
        other.done = list(self.done)
        other.undone = list(self.undone)
        return other


def entry_text(album, name):
    return "--\n" + name + "\n" + floor_text(album.floor_of(name)) + "\n"


def album_text(album):
    return set_text(album.set_of()) + "".join([entry_text(album, name) for name in album.names()])


def read_entries(tiles, entries):
    named = {}
    last = ""
    for entry in entries:
        halves = entry.partition("\n")
        name = halves[0]
        if not is_name(name) or name <= last:
            raise NoText("there is no name, or not in its turn")
        named[name] = read_floor(tiles, halves[2])
        last = name
    return named


def read_album(text):
    if not isinstance(text, str) or not text.endswith("\n"):
        raise NoText("this is no text, or its last line is not ended")
    parts = text[:-1].split("\n--\n")
    album = Album(read_set(parts[0] + "\n"))
    # Not by put, since a new album has no steps.
    album.named = read_entries(album.tiles, parts[1:])
    return album
