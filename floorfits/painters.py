"""Painters: a floor that is changed step by step, and goes back to what was."""

from floorfits.counting import is_fill
from floorfits.errors import NoFill, Nothing
from floorfits.floors import clashes, with_tile
from floorfits.knowing import has_fill, with_forced
from floorfits.layers import poured


class Painter:
    def __init__(self, tiles, floor):
        self.tiles = tiles
        self.now = floor
        self.before = []
        self.after = []

    def floor(self):
        return self.now

    def clashes(self):
        return clashes(self.tiles, self.now)

    def can_be_filled(self):
        return has_fill(self.tiles, self.now)

    def steps(self):
        return (len(self.before), len(self.after))

    def change_to(self, whole):
        # Where the floor stays as it is, what was taken back can still be done again.
        if whole != self.now:
            self.before.append(self.now)
            self.after = []
            self.now = whole

    def put(self, place, number):
        self.change_to(with_tile(self.tiles, self.now, place, number))

    def pour(self, place, number):
        self.change_to(poured(self.tiles, self.now, place, number))

    def force(self):
        self.change_to(with_forced(self.tiles, self.now))

    def finish(self, whole):
        if not is_fill(self.tiles, self.now, whole):
            raise NoFill("this is no fill of the floor")
        self.change_to(whole)

    def undo(self):
        if len(self.before) == 0:
            raise Nothing("there is no change to take back")
        self.after.append(self.now)
        self.now = self.before.pop()

    def redo(self):
        if len(self.after) == 0:
            raise Nothing("there is no change to do again")
        self.before.append(self.now)
        self.now = self.after.pop()
