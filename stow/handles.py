"""Handles: a room kept by a keeper of stretches, whose pieces are named by numbers that stay while the pieces move."""

from stow.asks import MARKS
from stow.errors import NoHandle, NoRoom
from stow.moving import gathered
from stow.stretches import stretches_of


def followed(places, pieces):
    # Moving keeps the order of the live pieces, so the handles, by their places of before, go along one by one.
    rising = sorted(places, key=lambda handle: places[handle])
    return dict(zip(rising, [at + 1 for at, long, live in pieces if live]))


class Handles:
    def __init__(self, size, word):
        self.keeper = stretches_of(word, size)
        self.places = {}
        self.coming = 0

    def cells(self):
        return self.keeper.cells()

    def pieces(self):
        return self.keeper.pieces()

    def handles(self):
        return sorted(self.places)

    def place(self, handle):
        if handle not in self.places:
            raise NoHandle("no piece is held by this handle")
        return self.places[handle]

    def many(self, handle):
        return self.keeper.many(self.place(handle))

    def get(self, handle, k):
        return self.keeper.get(self.place(handle), k)

    def put(self, handle, k, number):
        self.keeper.put(self.place(handle), k, number)

    def ask(self, count):
        try:
            place = self.keeper.ask(count)
        except NoRoom:
            # Refused with NoRoom itself where all free cells together are too few.
            self.gather(count + MARKS)
            place = self.keeper.ask(count)
        handle = self.coming
        self.places[handle] = place
        self.coming = handle + 1
        return handle

    def give(self, handle):
        self.keeper.give(self.place(handle))
        self.places.pop(handle)

    def grow(self, handle, count):
        try:
            place = self.keeper.grow(self.place(handle), count)
        except NoRoom:
            self.gather(count + MARKS)
            # The place is asked for again, since the piece itself may have moved.
            place = self.keeper.grow(self.place(handle), count)
        self.places[handle] = place
        return place

    def gather(self, need):
        moved, cells = gathered(self.keeper.cells(), need)
        # Laying would set a rover back, also where the cells are as before.
        if moved > 0:
            self.keeper.lay(cells)
            self.places = followed(self.places, self.keeper.pieces())
        return moved
